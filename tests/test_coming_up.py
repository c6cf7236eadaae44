"""Points 29 and 30, with 2, 3, 19 and 28: whether a disk is up, its stand, its former ones, and coming up."""

import copy
import unittest

from helpers import (
    DeedChance, WatchedDisk, behind_writes, contents_of, deed_by_the_words, parcel_of, parts_of, text_by_the_words,
    tree_by_the_words, turning_by_the_words,
)
from parcelmend.books import come_up, do_deed, formers_of, is_up, stand_on
from parcelmend.disks import Disk
from parcelmend.errors import Fallen, MendError
from parcelmend.parcels import Shelf
from parcelmend.stands import Stand

ONE = (1,)
TWO = (2,)
EMPTY = ({}, {}, {})


def example_shelf():
    return Shelf([
        parcel_of("a", ONE, 0, [("f", ["a1"]), ("g", ["g"])], offers=["m"]),
        parcel_of("a", TWO, 0, [("f", ["a2"])]),
        parcel_of("b", ONE, 1, [("h", ["b1"])], offers=["m"]),
    ])


class UpTest(unittest.TestCase):
    def check(self, book, expected):
        with self.subTest(book=book):
            disk = WatchedDisk({"f": ["1"]}, book)
            disk.allow(0)
            for turn in range(2):
                self.assertIs(is_up(disk), expected)
            self.assertEqual((disk.files_now(), disk.book_now()), ({"f": ["1"]}, book))

    def test_a_book_without_rows(self):
        self.check([], True)
        self.assertIs(is_up(Disk()), True)

    def test_the_last_row_is_an_end(self):
        self.check([("begin", "in a 1"), ("step", "a"), ("end", "")], True)
        self.check([("begin", ""), ("end", "")], True)
        self.check([("begin", "in a 1"), ("begin", "in a 1"), ("end", "")], True)

    def test_the_last_row_is_another(self):
        self.check([("begin", "in a 1")], False)
        self.check([("begin", "")], False)
        self.check([("begin", "in a 1"), ("step", "a")], False)
        self.check([("begin", "in a 1"), ("step", "a"), ("end", ""), ("begin", "")], False)
        self.check([("begin", "in a 1"), ("step", "a"), ("end", ""), ("begin", ""), ("step", "a")], False)


class StandOnTest(unittest.TestCase):
    def check(self, book, expected):
        """All former stands; the last one is the disk's own."""
        disk = WatchedDisk({"f": ["1"]}, book)
        disk.allow(0)
        for turn in range(2):
            stand = stand_on(disk)
            self.assertIs(type(stand), Stand)
            self.assertEqual(parts_of(stand), expected[-1])
            formers = formers_of(disk)
            self.assertIs(type(formers), list)
            self.assertEqual([type(former) for former in formers], [Stand] * len(expected))
            self.assertEqual([parts_of(former) for former in formers], expected)
            self.spoil(formers + [stand])
            formers.append(stand)
            formers.pop(0)
        self.assertEqual((disk.files_now(), disk.book_now()), ({"f": ["1"]}, book))

    def spoil(self, stands):
        for stand in stands:
            for change in stand.own.values():
                change[0].append("more")
                change[1].append("more")
            stand.chosen["zz"] = ONE
            stand.choices.clear()
            stand.own["zz"] = ([], [])

    def test_none_begun(self):
        self.check([], [EMPTY])
        self.assertEqual(parts_of(stand_on(Disk())), EMPTY)

    def test_one_begun(self):
        parts = ({"a": (1, 2), "b": ONE}, {"m": "a"}, {"f": (["p"], ["x", ""]), "g/h": ([], [])})
        for rows in ([], [("step", "a")], [("step", "a b")], [("step", "a b"), ("end", "")]):
            self.check([("begin", text_by_the_words(parts))] + rows, [EMPTY, parts])

    def test_several_in_their_order(self):
        rows = [("begin", "in b 2"), ("end", ""), ("begin", "in a 1"), ("step", "a"), ("end", "")]
        rows.append(("begin", "choose m a"))
        self.check(rows, [EMPTY, ({"b": TWO}, {}, {}), ({"a": ONE}, {}, {}), ({}, {"m": "a"}, {})])

    def test_one_noted_twice_stands_there_twice(self):
        rows = [("begin", "in a 1"), ("end", ""), ("begin", ""), ("end", ""), ("begin", "in a 1"), ("end", "")]
        self.check(rows, [EMPTY, ({"a": ONE}, {}, {}), EMPTY, ({"a": ONE}, {}, {})])
        self.check([("begin", ""), ("end", ""), ("begin", ""), ("end", "")], [EMPTY, EMPTY, EMPTY])
        self.check([("begin", "in a 1"), ("begin", "in a 1")], [EMPTY, ({"a": ONE}, {}, {}), ({"a": ONE}, {}, {})])

    def test_rows_of_other_kinds_count_for_nothing(self):
        rows = [("begin", "in a 1"), ("step", "begin"), ("step", "in b 2"), ("end", "")]
        self.check(rows, [EMPTY, ({"a": ONE}, {}, {})])


class ComingUpTest(unittest.TestCase):
    def check(self, shelf, disk, parts):
        """Coming up from this disk to the stand of these parts, with every number of writes, again and again."""
        shelved = copy.deepcopy(contents_of(shelf))
        files = disk.files_now()
        book = disk.book_now()
        tree = tree_by_the_words(shelf, parts)
        up = is_up(disk)
        expected = [] if up else turning_by_the_words(files, tree) + [("note", "end", "")]
        for many in list(range(len(expected) + 2)) + [None]:
            with self.subTest(parts=parts, many=many):
                other = WatchedDisk(files, book)
                other.allow(many)
                self.come(shelf, other, expected, many, not up)
                self.assertEqual((other.files_now(), other.book_now()), behind_writes(files, book, other.written))
                self.come_again(shelf, other, expected)
                self.check_up(shelf, other, parts, files if up else tree)
        self.assertEqual(contents_of(shelf), shelved)

    def come(self, shelf, disk, expected, many, answer):
        if many is None or many >= len(expected):
            self.assertIs(come_up(shelf, disk), answer)
            self.assertEqual(disk.written, expected)
        else:
            with self.assertRaises(MendError) as caught:
                come_up(shelf, disk)
            self.assertIs(type(caught.exception), Fallen)
            self.assertEqual(disk.written, expected[:many])
            self.assertIs(is_up(disk), False)

    def come_again(self, shelf, disk, expected):
        """It falls at each write that is left, and no write is done twice."""
        while not is_up(disk):
            many = len(disk.written)
            disk.allow(1)
            try:
                self.assertIs(come_up(shelf, disk), True)
            except Fallen:
                self.assertLess(many + 1, len(expected))
            self.assertEqual(disk.written, expected[:many + 1])

    def check_up(self, shelf, disk, parts, files):
        many = len(disk.written)
        disk.allow(0)
        for turn in range(2):
            self.assertIs(come_up(shelf, disk), False)
            self.assertIs(is_up(disk), True)
        self.assertEqual(len(disk.written), many)
        self.assertEqual(disk.files_now(), files)
        self.assertEqual(parts_of(stand_on(disk)), parts)

    def check_falls(self, shelf, disk, goal):
        """From a fall at each write of the deed to the goal, which is the last of the formers once it was begun."""
        now = parts_of(stand_on(disk))
        formers = [parts_of(former) for former in formers_of(disk)]
        expected = deed_by_the_words(shelf, disk.files_now(), now, goal)
        for many in range(len(expected)):
            other = WatchedDisk(disk.files_now(), disk.book_now())
            other.allow(many)
            with self.assertRaises(Fallen):
                do_deed(shelf, other, Stand(*goal))
            self.check(shelf, other, now if many == 0 else goal)
            told = [parts_of(former) for former in formers_of(other)]
            self.assertEqual(told, formers if many == 0 else formers + [goal])

    def test_a_new_disk(self):
        for shelf in (Shelf([]), example_shelf()):
            self.check(shelf, Disk(), EMPTY)

    def test_where_it_is_up_files_that_are_spoilt_stay(self):
        disk = Disk()
        do_deed(example_shelf(), disk, Stand({"a": ONE}, {}, {}))
        disk.put("f", ["spoilt"])
        disk.put("strange", [])
        disk.erase("g")
        self.check(example_shelf(), disk, ({"a": ONE}, {}, {}))

    def test_where_only_begin_was_noted(self):
        disk = WatchedDisk({}, [("begin", "in a 1\nin b 1")])
        self.check(example_shelf(), disk, ({"a": ONE, "b": ONE}, {}, {}))
        disk.allow(None)
        self.assertIs(come_up(example_shelf(), disk), True)
        self.assertEqual(disk.written, [
            ("put", "=m", ["b"]), ("put", "f", ["a1"]), ("put", "g", ["g"]), ("put", "h", ["b1"]), ("note", "end", ""),
        ])

    def test_no_step_is_noted_in_coming_up(self):
        disk = WatchedDisk({"=m": ["a"], "f": ["a1"], "g": ["g"]}, [("begin", "in a 1\nin b 1"), ("step", "a")])
        self.check(example_shelf(), disk, ({"a": ONE, "b": ONE}, {}, {}))
        self.assertIs(come_up(example_shelf(), disk), True)
        self.assertEqual(disk.written, [("put", "=m", ["b"]), ("put", "h", ["b1"]), ("note", "end", "")])

    def test_where_only_the_end_is_missing(self):
        disk = WatchedDisk({"f": ["a2"]}, [("begin", "in a 2"), ("step", "a")])
        self.check(example_shelf(), disk, ({"a": TWO}, {}, {}))
        self.assertIs(come_up(example_shelf(), disk), True)
        self.assertEqual(disk.written, [("note", "end", "")])

    def test_files_written_by_hand_behind_a_fall(self):
        disk = WatchedDisk({"f": ["spoilt"], "strange": [], "h.own": ["x"]}, [("begin", "in a 1\nown h\n<1\n>2")])
        self.check(example_shelf(), disk, ({"a": ONE}, {}, {"h": (["1"], ["2"])}))

    def test_to_the_empty_stand(self):
        disk = Disk()
        do_deed(example_shelf(), disk, Stand({"a": ONE, "b": ONE}, {"m": "a"}, {"k": ([], ["x"])}))
        self.check_falls(example_shelf(), disk, EMPTY)

    def test_a_fall_ahead_of_begin_leaves_the_stand_that_was_there(self):
        disk = Disk()
        do_deed(example_shelf(), disk, Stand({"a": ONE}, {}, {}))
        disk.allow(0)
        with self.assertRaises(Fallen):
            do_deed(example_shelf(), disk, Stand({"a": TWO}, {}, {}))
        self.assertIs(is_up(disk), True)
        self.assertIs(come_up(example_shelf(), disk), False)
        self.assertEqual(parts_of(stand_on(disk)), ({"a": ONE}, {}, {}))
        self.assertEqual(disk.files_now(), {"=m": ["a"], "f": ["a1"], "g": ["g"]})

    def test_a_deed_behind_coming_up(self):
        disk = Disk()
        disk.allow(2)
        with self.assertRaises(Fallen):
            do_deed(example_shelf(), disk, Stand({"a": ONE}, {}, {}))
        disk.allow(None)
        self.assertIs(come_up(example_shelf(), disk), True)
        do_deed(example_shelf(), disk, Stand({"a": TWO}, {}, {}))
        self.assertEqual(disk.files_now(), {"f": ["a2"]})
        self.assertEqual(disk.book_now(), [
            ("begin", "in a 1"), ("end", ""), ("begin", "in a 2"), ("step", "a"), ("end", ""),
        ])

    def test_what_lies_beyond_the_bounds_comes_up(self):
        parts = ({"abcdefghi": (1, 2, 3, 4)}, {"k" * 9: "z" * 9}, {"a/b/c/d/e": (["1" * 70], ["2"] * 25)})
        shelf = Shelf([parcel_of("abcdefghi", (1, 2, 3, 4), files=[("a/b/c/d/e", ["3"])])])
        self.check_falls(shelf, Disk(), parts)

    def test_falls_of_all_sorts(self):
        names = ["a", "b", "c"]
        for number in range(30):
            chance = DeedChance(number)
            shelf = chance.shelf(names + ["d"])
            disk = Disk()
            for turn in range(3):
                goal = chance.parts(shelf, names)
                self.check_falls(shelf, disk, goal)
                do_deed(shelf, disk, Stand(*goal))


if __name__ == "__main__":
    unittest.main()
