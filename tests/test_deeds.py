"""Point 28, with 2, 3, 25 and 26: deeds, write by write, and what is there where one falls."""

import copy
import unittest

from helpers import (
    DeedChance, WatchedDisk, behind_by_the_words, behind_writes, contents_of, deed_by_the_words, is_sound_by_the_words,
    parcel_of, parts_of, text_by_the_words, tree_by_the_words,
)
from parcelmend.books import do_deed, formers_of, is_up, stand_on
from parcelmend.disks import Disk
from parcelmend.errors import Fallen, MendError
from parcelmend.parcels import Shelf
from parcelmend.stands import Stand
from parcelmend.standtexts import read_stand

ONE = (1,)
TWO = (2,)
ANY = ((), None)
EMPTY = ({}, {}, {})
END = ("note", "end", "")


def example_shelf():
    return Shelf([
        parcel_of("a", ONE, 0, [("f", ["a1", "p"])]),
        parcel_of("a", TWO, 0, [("f", ["a2", "p"])], [("b", TWO, None)]),
        parcel_of("b", ONE, 0, [("g", ["b1"])], [], [("a", TWO, None)]),
        parcel_of("b", TWO, 1, [("g", ["b2"]), ("i", [])], offers=["m"]),
        parcel_of("c", (1, 0), 5, [("h", ["c"])], offers=["m"]),
    ])


class DeedTest(unittest.TestCase):
    def check(self, shelf, disk, goal, expected):
        """From what is on the disk to the goal, with each number of writes; the disk itself gets all of them."""
        handed = copy.deepcopy((contents_of(shelf), goal))
        files = disk.files_now()
        book = disk.book_now()
        now = parts_of(stand_on(disk))
        self.assertEqual(deed_by_the_words(shelf, files, now, goal), expected)
        for many in list(range(len(expected) + 2)) + [None]:
            with self.subTest(now=now, goal=goal, many=many):
                other = WatchedDisk(files, book)
                other.allow(many)
                self.do(shelf, other, goal, expected, many)
                self.check_behind(other, files, book, now, goal)
        self.assertIsNone(do_deed(shelf, disk, Stand(*goal)))
        self.assertEqual((disk.files_now(), disk.book_now()), behind_writes(files, book, expected))
        self.assertEqual((contents_of(shelf), goal), handed)

    def do(self, shelf, disk, goal, expected, many):
        stand = Stand(*goal)
        if many is None or many >= len(expected):
            self.assertIsNone(do_deed(shelf, disk, stand))
            self.assertEqual(disk.written, expected)
        else:
            with self.assertRaises(MendError) as caught:
                do_deed(shelf, disk, stand)
            self.assertIs(type(caught.exception), Fallen)
            self.assertEqual(disk.written, expected[:many])
        self.assertEqual(parts_of(stand), goal)

    def check_behind(self, disk, files, book, now, goal):
        """The writes that were done, and no others, show; the stand is the goal once its begin is noted."""
        self.assertEqual((disk.files_now(), disk.book_now()), behind_writes(files, book, disk.written))
        if disk.written == []:
            self.assertEqual(parts_of(stand_on(disk)), now)
            self.assertIs(is_up(disk), True)
        else:
            self.assertEqual(parts_of(stand_on(disk)), goal)
            self.assertIs(is_up(disk), disk.written[-1] == END)


class WriteByWriteTest(DeedTest):
    def test_nothing_changes(self):
        disk = Disk()
        self.check(example_shelf(), disk, EMPTY, [])
        self.assertEqual(disk.book_now(), [])

    def test_one_parcel_comes_in(self):
        self.check(example_shelf(), Disk(), ({"a": ONE}, {}, {}), [
            ("note", "begin", "in a 1"), ("put", "f", ["a1", "p"]), ("note", "step", "a"), END,
        ])

    def test_a_parcel_without_files(self):
        shelf = Shelf([parcel_of("a", (1, 2, 3))])
        disk = Disk()
        self.check(shelf, disk, ({"a": (1, 2, 3)}, {}, {}), [
            ("note", "begin", "in a 1.2.3"), ("note", "step", "a"), END,
        ])
        self.check(shelf, disk, EMPTY, [("note", "begin", ""), ("note", "step", "a"), END])

    def test_several_steps_with_choices_and_own_changes_from_the_first_on(self):
        disk = Disk()
        own = {"f": (["a1", "p"], ["mine", "p"]), "k/l": ([], ["new", ""])}
        self.check(example_shelf(), disk, ({"a": TWO, "b": TWO, "c": (1, 0)}, {"m": "b"}, own), [
            ("note", "begin", "in a 2\nin b 2\nin c 1.0\nchoose m b\nown f\n<a1\n<p\n>mine\n>p\nown k/l\n>new\n>"),
            ("put", "=m", ["b"]), ("put", "f", ["mine", "p"]), ("put", "g", ["b2"]), ("put", "i", []),
            ("put", "k/l", ["new", ""]), ("note", "step", "b"),
            ("put", "f", ["a2", "p"]), ("put", "f.own", ["mine", "p"]), ("note", "step", "a"),
            ("put", "h", ["c"]), ("note", "step", "c"),
            END,
        ])
        self.check(example_shelf(), disk, ({"b": TWO, "c": (1, 0)}, {}, {}), [
            ("note", "begin", "in b 2\nin c 1.0"),
            ("put", "=m", ["c"]), ("erase", "f"), ("erase", "f.own"), ("erase", "k/l"), ("note", "step", "a"),
            END,
        ])

    def test_a_group_of_two(self):
        disk = Disk()
        self.check(example_shelf(), disk, ({"a": ONE, "b": ONE}, {}, {}), [
            ("note", "begin", "in a 1\nin b 1"), ("put", "f", ["a1", "p"]), ("note", "step", "a"),
            ("put", "g", ["b1"]), ("note", "step", "b"), END,
        ])
        shelf = Shelf([
            parcel_of("a", ONE, 0, [("f", ["a1", "p"])], [("b", (), TWO)]), example_shelf().parcel("a", TWO),
            example_shelf().parcel("b", ONE), example_shelf().parcel("b", TWO),
        ])
        self.check(shelf, disk, ({"a": TWO, "b": TWO}, {}, {}), [
            ("note", "begin", "in a 2\nin b 2"),
            ("put", "=m", ["b"]), ("put", "f", ["a2", "p"]), ("put", "g", ["b2"]), ("put", "i", []),
            ("note", "step", "a b"),
            END,
        ])

    def test_a_file_that_goes_from_one_parcel_to_another(self):
        shelf = Shelf([
            parcel_of("a", ONE, files=[("f", ["1"]), ("g", ["1"])]),
            parcel_of("b", ONE, files=[("f", ["1"]), ("g", ["2"])]),
        ])
        disk = Disk()
        do_deed(shelf, disk, Stand({"a": ONE}, {}, {}))
        self.check(shelf, disk, ({"b": ONE}, {}, {}), [
            ("note", "begin", "in b 1"),
            ("erase", "f"), ("erase", "g"), ("note", "step", "a"), ("put", "f", ["1"]), ("put", "g", ["2"]),
            ("note", "step", "b"),
            END,
        ])

    def test_no_step_where_only_choices_and_own_changes_are_others(self):
        disk = Disk()
        chosen = {"b": TWO, "c": (1, 0)}
        do_deed(example_shelf(), disk, Stand(chosen, {}, {}))
        self.check(example_shelf(), disk, (chosen, {"m": "b"}, {}), [
            ("note", "begin", "in b 2\nin c 1.0\nchoose m b"), ("put", "=m", ["b"]), END,
        ])
        self.check(example_shelf(), disk, (chosen, {"m": "b"}, {"g": (["b2"], ["b2", "x"])}), [
            ("note", "begin", "in b 2\nin c 1.0\nchoose m b\nown g\n<b2\n>b2\n>x"), ("put", "g", ["b2", "x"]), END,
        ])
        self.check(example_shelf(), disk, (chosen, {}, {}), [
            ("note", "begin", "in b 2\nin c 1.0"), ("put", "=m", ["c"]), ("put", "g", ["b2"]), END,
        ])

    def test_another_stand_with_the_same_tree(self):
        disk = Disk()
        self.check(example_shelf(), disk, ({}, {"m": "zz"}, {}), [("note", "begin", "choose m zz"), END])
        self.check(example_shelf(), disk, EMPTY, [("note", "begin", ""), END])

    def test_files_written_by_hand_are_mended_on_the_way(self):
        disk = Disk()
        do_deed(example_shelf(), disk, Stand({"a": ONE, "c": (1, 0)}, {}, {}))
        disk.put("strange", ["1"])
        disk.put("f", ["spoilt"])
        disk.erase("h")
        self.check(example_shelf(), disk, ({"a": ONE, "b": TWO, "c": (1, 0)}, {}, {}), [
            ("note", "begin", "in a 1\nin b 2\nin c 1.0"),
            ("put", "f", ["a1", "p"]), ("put", "g", ["b2"]), ("put", "h", ["c"]), ("put", "i", []),
            ("erase", "strange"), ("note", "step", "b"),
            END,
        ])

    def test_to_the_stand_that_is_there(self):
        goal = ({"a": TWO, "b": TWO}, {"m": "b"}, {"f": (["a2", "p"], ["x"])})
        disk = Disk()
        do_deed(example_shelf(), disk, Stand(*goal))
        self.check(example_shelf(), disk, goal, [])
        turned = tuple(dict(list(part.items())[::-1]) for part in goal)
        self.check(example_shelf(), disk, turned, [])
        disk.put("f", ["spoilt"])
        disk.erase("g")
        self.check(example_shelf(), disk, goal, [])
        self.assertEqual(disk.files_now()["f"], ["spoilt"])

    def test_all_out(self):
        disk = Disk()
        do_deed(example_shelf(), disk, Stand({"a": TWO, "b": TWO}, {"m": "b"}, {"f": (["a2", "p"], ["x"])}))
        self.check(example_shelf(), disk, EMPTY, [
            ("note", "begin", ""),
            ("erase", "f"), ("note", "step", "a"),
            ("erase", "=m"), ("erase", "g"), ("erase", "i"), ("note", "step", "b"),
            END,
        ])
        self.assertEqual(disk.files_now(), {})


class HandedInTest(unittest.TestCase):
    def test_the_goal_changed_behind(self):
        goal = Stand({"a": ONE}, {"m": "a"}, {"f": (["p"], ["x"])})
        disk = Disk()
        do_deed(example_shelf(), disk, goal)
        told = (disk.files_now(), disk.book_now())
        goal.chosen["b"] = ONE
        goal.choices["k"] = "b"
        goal.own["f"][1].append("more")
        self.assertEqual((disk.files_now(), disk.book_now()), told)
        self.assertEqual(parts_of(stand_on(disk)), ({"a": ONE}, {"m": "a"}, {"f": (["p"], ["x"])}))

    def test_what_a_file_brings_stays_the_parcels(self):
        shelf = example_shelf()
        disk = Disk()
        do_deed(shelf, disk, Stand({"a": ONE}, {}, {}))
        disk.files_now()["f"].append("more")
        disk.put("f", ["spoilt"])
        self.assertEqual(contents_of(shelf), contents_of(example_shelf()))


class BeyondTheBoundsTest(DeedTest):
    """Nothing is refused for what lies somewhat beyond the bounds of points 4, 5 and 7."""

    def test_lines(self):
        many = [str(number) for number in range(25)]
        long = ["x" * 70]
        shelf = Shelf([parcel_of("a", ONE, files=[("f", many + ["y"]), ("g", long)])])
        own = {"f": (many, ["z"] + many), "g": (long, long * 2), "h": ([], many)}
        disk = Disk()
        do_deed(shelf, disk, Stand({"a": ONE}, {}, own))
        self.assertEqual(disk.files_now(), {"f": ["z"] + many + ["y"], "g": long * 2, "h": many})
        self.assertEqual(parts_of(stand_on(disk)), ({"a": ONE}, {}, own))
        self.assertEqual(parts_of(formers_of(disk)[1]), ({"a": ONE}, {}, own))
        do_deed(shelf, disk, Stand({}, {}, own))
        self.assertEqual(disk.files_now(), {"f": ["z"] + many, "g": long * 2, "h": many})

    def test_names_makes_and_paths(self):
        shelf = Shelf([parcel_of("abcdefghi", (1, 2, 3, 10 ** 9 + 1), files=[("a/b/c/d/e", ["1"])], offers=["k" * 9])])
        goal = ({"abcdefghi": (1, 2, 3, 10 ** 9 + 1)}, {"k" * 9: "z" * 9}, {"a/b/c/d/e": (["1"], ["2"])})
        disk = Disk()
        self.check(shelf, disk, goal, [
            ("note", "begin", text_by_the_words(goal)),
            ("put", "=" + "k" * 9, ["abcdefghi"]), ("put", "a/b/c/d/e", ["2"]), ("note", "step", "abcdefghi"),
            END,
        ])
        self.check(shelf, disk, ({}, {}, {}), [
            ("note", "begin", ""), ("erase", "=" + "k" * 9), ("erase", "a/b/c/d/e"), ("note", "step", "abcdefghi"), END,
        ])


class WordsOfThePointTest(DeedTest):
    def check_steps(self, shelf, book):
        """Ahead of the first step, between two and behind the last one the set is sound; the last one leads to goal."""
        together = 0
        reached = {}
        goal = {}
        for kind, text in book:
            self.assertTrue(is_sound_by_the_words(shelf, reached))
            if kind == "begin":
                goal = read_stand(text).chosen
            elif kind == "step":
                group = text.split(" ")
                self.assertNotEqual(reached, goal)
                reached = behind_by_the_words(reached, goal, group)
                together = together + (len(group) > 1)
            else:
                self.assertEqual((kind, text), ("end", ""))
                self.assertEqual(reached, goal)
        return together

    def test_deeds_of_all_sorts(self):
        together = 0
        besides = 0
        names = ["a", "b", "c", "d"]
        for number in range(60):
            chance = DeedChance(number)
            shelf = chance.shelf(names)
            disk = Disk()
            for turn in range(6):
                goal = chance.parts(shelf, names)
                now = parts_of(stand_on(disk))
                self.check(shelf, disk, goal, deed_by_the_words(shelf, disk.files_now(), now, goal))
                self.assertEqual(disk.files_now(), tree_by_the_words(shelf, goal))
                besides = besides + len([path for path in disk.files_now() if path.endswith(".own")])
            together = together + self.check_steps(shelf, disk.book_now())
        self.assertGreater(together, 20)
        self.assertGreater(besides, 20)


if __name__ == "__main__":
    unittest.main()
