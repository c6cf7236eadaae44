"""Points 31, 32 and 35, with 2, 20, 22, 24 and 28: a house, its wishes, and the way back."""

import copy
import unittest

from helpers import (
    DeedChance, HouseTest, WatchedDisk, best_by_the_words, holds_by_the_words, parcel_of, parts_of, tree_by_the_words,
)
from parcelmend.books import do_deed
from parcelmend.disks import Disk
from parcelmend.errors import Fallen, NoFormer, NoName, NoPath, NotUp, TooWide
from parcelmend.houses import House
from parcelmend.parcels import Shelf
from parcelmend.stands import Stand
from parcelmend.wishes import Best, Unmet

ONE = (1,)
TWO = (2,)
ANY = ((), None)
EMPTY = ({}, {}, {})


def example_shelf():
    return Shelf([
        parcel_of("ed", ONE, 3, [("conf/ed", ["w = 1"])], [("lib", ONE, TWO)], offers=["text"]),
        parcel_of("ed", TWO, 3, [("conf/ed", ["w = 2"])], [("lib", TWO, None)], offers=["text"]),
        parcel_of("lib", (1, 4), 0, [("lib", ["1.4"])]),
        parcel_of("lib", TWO, 0, [("lib", ["2"])]),
        parcel_of("vi", (0, 9), 1, [("vi", [])], [], [("ed", TWO, None)], ["text"]),
    ])


def wide_shelf():
    """Its width is 729."""
    return Shelf([parcel_of(name, make) for name in "abcdef" for make in (ONE, TWO)])


# What a house does only where it is up; behind the first of each come things that would be refused otherwise.
DOINGS = [
    lambda house: house.wish([]), lambda house: house.wish([("in", "ed") + ANY]),
    lambda house: house.wish([("in", "zz") + ANY]),
    lambda house: house.edit("f", ["1"]), lambda house: house.edit("", []), lambda house: house.edit("A", ["1"]),
    lambda house: house.forget("f"), lambda house: house.forget("a//b"),
    lambda house: house.choose("text", "vi"), lambda house: house.choose("text", None),
    lambda house: house.choose("", "vi"), lambda house: house.choose("text", "VI"),
    lambda house: house.back(0), lambda house: house.back(1), lambda house: house.back(99),
    lambda house: house.back(-1),
    lambda house: house.look(), lambda house: house.mend(),
]


class HouseItselfTest(HouseTest):
    def check(self, shelf, disk, up, formers):
        """What each house over this disk tells, whether it may write or not."""
        for many in (0, None):
            disk.allow(many)
            for house in (House(shelf, disk), House(shelf=shelf, disk=disk)):
                for turn in range(2):
                    self.assertIs(house.up(), up)
                    self.assertIs(type(house.stand()), Stand)
                    self.assertEqual(parts_of(house.stand()), formers[-1])
                    told = house.formers()
                    self.assertIs(type(told), list)
                    self.assertEqual([parts_of(former) for former in told], formers)
                    told[0].chosen["zz"] = ONE
                    told.append(told.pop(0))
                    house.stand().own["zz"] = ([], [])

    def test_a_new_one(self):
        for shelf in (Shelf([]), example_shelf()):
            self.check(shelf, Disk(), True, [EMPTY])
            self.assertIs(House(shelf, Disk()).come_up(), False)

    def test_another_house_over_the_same_disk(self):
        disk = Disk()
        first = House(example_shelf(), disk)
        second = House(example_shelf(), disk)
        first.wish([("in", "vi") + ANY])
        self.check(example_shelf(), disk, True, [EMPTY, ({"vi": (0, 9)}, {}, {})])
        self.assertEqual(parts_of(second.stand()), ({"vi": (0, 9)}, {}, {}))
        second.edit("vi", ["x"])
        first.choose("text", "ed")
        last = ({"vi": (0, 9)}, {"text": "ed"}, {"vi": ([], ["x"])})
        self.check(example_shelf(), disk, True, [EMPTY, ({"vi": (0, 9)}, {}, {}), (last[0], {}, last[2]), last])
        self.assertEqual(second.look(), [])
        second.back(1)
        self.assertEqual(parts_of(first.stand()), ({"vi": (0, 9)}, {}, {}))

    def test_another_house_behind_a_fall(self):
        for many in range(1, 6):
            disk = Disk()
            disk.allow(many)
            with self.assertRaises(Fallen):
                House(example_shelf(), disk).wish([("in", "ed") + ANY])
            formers = [EMPTY, ({"ed": TWO, "lib": TWO}, {}, {})]
            self.check(example_shelf(), disk, False, formers)
            self.assertIs(House(example_shelf(), disk).come_up(), True)
            self.check(example_shelf(), disk, True, formers)
            self.assertIs(House(example_shelf(), disk).come_up(), False)
            self.assertEqual(disk.files_now(), {"=text": ["ed"], "conf/ed": ["w = 2"], "lib": ["2"]})

    def test_falls_in_coming_up(self):
        disk = WatchedDisk({"strange": [], "lib": ["1.4"]}, [("begin", "in ed 2\nin lib 2")])
        house = House(example_shelf(), disk)
        for many in range(4):
            disk.allow(1)
            self.refuse_with(Fallen, house.come_up)
            self.assertIs(house.up(), False)
            self.assertEqual(len(disk.written), many + 1)
        disk.allow(1)
        self.assertIs(house.come_up(), True)
        self.assertEqual(disk.written, [
            ("put", "=text", ["ed"]), ("put", "conf/ed", ["w = 2"]), ("put", "lib", ["2"]), ("erase", "strange"),
            ("note", "end", ""),
        ])

    def test_houses_over_two_disks_are_apart(self):
        shelf = example_shelf()
        first = House(shelf, Disk())
        second = House(shelf, Disk())
        first.wish([("in", "vi") + ANY])
        self.assertEqual(parts_of(second.stand()), EMPTY)
        self.assertEqual([parts_of(former) for former in second.formers()], [EMPTY])


class NotUpTest(HouseTest):
    def books(self):
        return [
            [("begin", "")], [("begin", "in vi 0.9")], [("begin", "in vi 0.9"), ("step", "vi")],
            [("begin", "in vi 0.9"), ("step", "vi"), ("end", ""), ("begin", "choose text vi")],
        ]

    def test_refused_ahead_of_all_else(self):
        for book in self.books():
            for number, do in enumerate(DOINGS):
                with self.subTest(book=book, number=number):
                    self.check_refused(example_shelf(), WatchedDisk({"f": ["1"]}, book), do, NotUp)

    def test_ahead_of_too_wide(self):
        for do in DOINGS[:3]:
            self.check_refused(wide_shelf(), WatchedDisk({}, [("begin", "in a 1")]), do, NotUp)
            self.check_refused(wide_shelf(), WatchedDisk({}, [("begin", "in a 1"), ("end", "")]), do, TooWide)

    def test_behind_a_fall_of_each_deed(self):
        deeds = [
            lambda house: house.wish([("in", "ed") + ANY]), lambda house: house.edit("f", ["1"]),
            lambda house: house.forget("g"), lambda house: house.choose("text", "vi"), lambda house: house.back(0),
        ]
        for deed in deeds:
            disk = Disk()
            do_deed(example_shelf(), disk, Stand({}, {}, {"g": ([], ["x"])}))
            disk.allow(1)
            self.refuse_with(Fallen, lambda: deed(House(example_shelf(), disk)))
            for do in DOINGS:
                self.check_refused(example_shelf(), disk, do, NotUp)
            self.assertIs(House(example_shelf(), disk).up(), False)

    def test_up_again_each_is_answered_or_refused_otherwise(self):
        refusals = {4: NoPath, 5: NoPath, 7: NoPath, 10: NoName, 11: NoName, 14: NoFormer, 15: NoFormer}
        for number, do in enumerate(DOINGS):
            disk = WatchedDisk({"f": ["1"]}, [("begin", "in vi 0.9")])
            House(example_shelf(), disk).come_up()
            if number in refusals:
                self.check_refused(example_shelf(), disk, do, refusals[number])
            else:
                do(House(example_shelf(), disk))


class WishTest(HouseTest):
    def check_best(self, shelf, disk, wishes, chosen):
        handed = copy.deepcopy(wishes)
        stand = parts_of(House(shelf, disk).stand())
        told = self.check_deed(shelf, disk, lambda house: house.wish(wishes), (chosen, stand[1], stand[2]))
        self.assertIs(type(told), Best)
        self.assertEqual(told.chosen, chosen)
        told.chosen["zz"] = ONE
        self.assertEqual(House(shelf, disk).stand().chosen, chosen)
        self.assertEqual(wishes, handed)
        self.check_again(shelf, disk, wishes, chosen)

    def check_again(self, shelf, disk, wishes, chosen):
        other = WatchedDisk(disk.files_now(), disk.book_now())
        other.allow(0)
        self.assertEqual(House(shelf, other).wish(wishes).chosen, chosen)
        self.assertEqual(other.written, [])

    def check_unmet(self, shelf, disk, wishes):
        handed = copy.deepcopy(wishes)
        for many in (0, None):
            other = WatchedDisk(disk.files_now(), disk.book_now())
            other.allow(many)
            told = House(shelf, other).wish(wishes)
            self.assertIs(type(told), Unmet)
            self.assertIs(told.paper.holds(shelf, wishes), True)
            self.assertTrue(holds_by_the_words(told.paper, shelf, wishes))
            self.assertEqual(other.written, [])
        self.assertEqual(wishes, handed)

    def test_parcels_in_and_out(self):
        disk = Disk()
        self.check_best(example_shelf(), disk, [], {})
        self.check_best(example_shelf(), disk, [("in", "vi") + ANY], {"vi": (0, 9)})
        self.check_best(example_shelf(), disk, [("in", "ed") + ANY], {"ed": ONE, "lib": (1, 4), "vi": (0, 9)})
        self.check_best(example_shelf(), disk, [("out", "vi")], {"ed": ONE, "lib": (1, 4)})
        self.check_best(example_shelf(), disk, [("in", "lib", TWO, None), ("in", "ed") + ANY], {"ed": TWO, "lib": TWO})
        self.check_best(example_shelf(), disk, [("out", "lib"), ("out", "zz")], {})
        self.assertEqual(disk.files_now(), {})

    def test_choices_and_own_changes_stay(self):
        disk = Disk()
        own = {"conf/ed": (["w = 1"], ["w = 1", "mine"]), "f": ([], ["x"])}
        do_deed(example_shelf(), disk, Stand({}, {"text": "vi", "zz": "ed"}, own))
        self.check_best(example_shelf(), disk, [("in", "vi") + ANY, ("in", "ed") + ANY], {
            "ed": ONE, "lib": (1, 4), "vi": (0, 9),
        })
        self.assertEqual(parts_of(House(example_shelf(), disk).stand())[1:], ({"text": "vi", "zz": "ed"}, own))
        self.assertEqual(disk.files_now()["=text"], ["vi"])
        self.assertEqual(disk.files_now()["conf/ed"], ["w = 1", "mine"])
        self.check_best(example_shelf(), disk, [("out", "vi"), ("in", "ed", TWO, None)], {"ed": TWO, "lib": TWO})
        self.assertEqual(parts_of(House(example_shelf(), disk).stand())[1:], ({"text": "vi", "zz": "ed"}, own))
        self.assertEqual(disk.files_now(), {
            "=text": ["ed"], "conf/ed": ["w = 2", "mine"], "f": ["x"], "lib": ["2"],
        })

    def test_unmet(self):
        disk = Disk()
        for turn in range(2):
            for wishes in (
                [("in", "zz") + ANY], [("in", "ed", (3,), None)], [("in", "ed") + ANY, ("out", "lib")],
                [("in", "ed", TWO, None), ("in", "vi") + ANY], [("in", "vi") + ANY, ("out", "vi")],
                [("in", "lib", TWO, None), ("in", "ed", (), TWO)],
            ):
                self.check_unmet(example_shelf(), disk, wishes)
            House(example_shelf(), disk).wish([("in", "ed") + ANY])

    def test_over_the_shelf_without_parcels(self):
        disk = Disk()
        self.check_best(Shelf([]), disk, [], {})
        self.check_best(Shelf([]), disk, [("out", "a")], {})
        self.check_unmet(Shelf([]), disk, [("in", "a") + ANY])
        self.assertEqual(disk.book_now(), [])

    def test_files_that_are_spoilt_stay_where_the_set_does(self):
        disk = Disk()
        House(example_shelf(), disk).wish([("in", "vi") + ANY])
        disk.put("vi", ["spoilt"])
        disk.put("strange", [])
        self.check_best(example_shelf(), disk, [("in", "vi") + ANY], {"vi": (0, 9)})
        self.assertEqual(disk.files_now(), {"=text": ["vi"], "strange": [], "vi": ["spoilt"]})

    def test_too_wide_ahead_of_any_write(self):
        for wishes in ([], [("in", "a") + ANY], [("in", "zz") + ANY], [("out", "a"), ("in", "a") + ANY]):
            self.check_refused(wide_shelf(), Disk(), lambda house: house.wish(wishes), TooWide)

    def test_too_wide_hinders_no_other_deed(self):
        disk = Disk()
        house = House(wide_shelf(), disk)
        do_deed(wide_shelf(), disk, Stand({"a": ONE, "f": TWO}, {}, {}))
        house.edit("f", ["1"])
        house.choose("m", "a")
        house.forget("f")
        house.back(1)
        self.assertEqual(parts_of(house.stand()), ({"a": ONE, "f": TWO}, {}, {}))
        self.assertEqual((house.look(), house.mend()), ([], []))

    def test_shelves_of_all_sorts(self):
        names = ["a", "b", "c", "d"]
        unmet = 0
        for number in range(40):
            chance = DeedChance(number)
            shelf = chance.shelf(names)
            disk = Disk()
            do_deed(shelf, disk, Stand(*chance.parts(shelf, names)))
            for turn in range(5):
                wishes = chance.wishes(names, 3)
                expected = best_by_the_words(shelf, House(shelf, disk).stand().chosen, wishes)
                if expected is None:
                    self.check_unmet(shelf, disk, wishes)
                    unmet = unmet + 1
                else:
                    self.check_best(shelf, disk, wishes, expected)
                    self.assertEqual(disk.files_now(), tree_by_the_words(shelf, parts_of(House(shelf, disk).stand())))
        self.assertGreater(unmet, 20)


class BackTest(HouseTest):
    def stands(self):
        return [
            ({"vi": (0, 9)}, {}, {}), ({"vi": (0, 9)}, {"text": "ed"}, {"vi": ([], ["x"])}),
            ({"ed": TWO, "lib": TWO}, {"text": "vi"}, {"conf/ed": (["w = 1"], ["w = 3"]), "f": ([], ["x"])}), EMPTY,
            ({"vi": (0, 9)}, {}, {}),
        ]

    def disk(self):
        disk = Disk()
        for parts in self.stands():
            do_deed(example_shelf(), disk, Stand(*parts))
        return disk

    def test_to_each_with_all_three_parts(self):
        formers = [EMPTY] + self.stands()
        for number, parts in enumerate(formers):
            disk = self.disk()
            house = House(example_shelf(), disk)
            self.assertIsNone(self.check_deed(example_shelf(), disk, lambda house: house.back(number), parts))
            self.assertEqual(disk.files_now(), tree_by_the_words(example_shelf(), parts))
            told = [parts_of(former) for former in house.formers()]
            self.assertEqual(told, formers if number in (1, 5) else formers + [parts])

    def test_to_the_stand_that_is_there(self):
        for number in (1, 5):
            disk = self.disk()
            disk.put("vi", ["spoilt"])
            many = len(disk.book_now())
            disk.allow(0)
            self.assertIsNone(House(example_shelf(), disk).back(number))
            self.assertEqual(len(disk.book_now()), many)
            self.assertEqual(disk.files_now()["vi"], ["spoilt"])

    def test_to_and_fro(self):
        disk = self.disk()
        house = House(example_shelf(), disk)
        formers = [EMPTY] + self.stands()
        for number in (3, 0, 6, 2, 7, 9, 5):
            house.back(number)
            formers.append(formers[number])
            self.assertEqual([parts_of(former) for former in house.formers()], formers)
            self.assertEqual(disk.files_now(), tree_by_the_words(example_shelf(), formers[number]))

    def test_on_a_new_disk(self):
        disk = Disk()
        disk.allow(0)
        self.assertIsNone(House(example_shelf(), disk).back(0))
        self.assertEqual(disk.book_now(), [])

    def test_none_of_that_number(self):
        for number in (6, 7, 100, 10 ** 9, -1, -2, -6, -7):
            self.check_refused(example_shelf(), self.disk(), lambda house: house.back(number), NoFormer)
        for number in (1, 2, -1):
            self.check_refused(example_shelf(), Disk(), lambda house: house.back(number), NoFormer)

    def test_what_is_no_whole_number(self):
        for number in (True, False, None, "0", "1"):
            self.check_refused(example_shelf(), self.disk(), lambda house: house.back(number), NoFormer)

    def test_the_number_just_reached(self):
        disk = Disk()
        house = House(example_shelf(), disk)
        house.edit("f", ["1"])
        self.check_refused(example_shelf(), disk, lambda house: house.back(2), NoFormer)
        house.back(0)
        house.back(2)
        self.check_refused(example_shelf(), disk, lambda house: house.back(3), NoFormer)
        house.back(1)
        self.assertEqual(parts_of(house.stand()), ({}, {}, {"f": ([], ["1"])}))


if __name__ == "__main__":
    unittest.main()
