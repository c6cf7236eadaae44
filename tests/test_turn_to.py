"""Point 27, with 2 and 26: a disk turned to a tree."""

import copy
import itertools
import unittest

from helpers import WatchedDisk, behind_writes, turning_by_the_words
from parcelmend.books import turn_to
from parcelmend.disks import Disk
from parcelmend.errors import Fallen, MendError


class TurnTest(unittest.TestCase):
    def check(self, files, tree, expected):
        """With any number of writes, and with every smaller number; what is handed in stays."""
        handed = copy.deepcopy((files, tree))
        self.assertEqual(turning_by_the_words(files, tree), expected)
        book = [("begin", "in a 1"), ("end", "")]
        with self.subTest(files=files, tree=tree):
            for many in list(range(len(expected) + 2)) + [None]:
                for first in (files, dict(list(files.items())[::-1])):
                    disk = WatchedDisk(first, book)
                    self.turn(disk, many, tree, expected)
                    self.assertEqual(disk.book_now(), book)
            self.assertEqual((files, tree), handed)

    def turn(self, disk, many, tree, expected):
        files = disk.files_now()
        disk.allow(many)
        if many is None or many >= len(expected):
            self.assertIsNone(turn_to(disk, tree))
            self.assertEqual(disk.written, expected)
            self.assertEqual(disk.files_now(), tree)
        else:
            with self.assertRaises(MendError) as caught:
                turn_to(disk, tree)
            self.assertIs(type(caught.exception), Fallen)
            self.assertEqual(disk.written, expected[:many])
        self.assertEqual(disk.files_now(), behind_writes(files, [], disk.written)[0])
        self.check_left(disk, None if many is None else max(0, many - len(expected)))

    def check_left(self, disk, left):
        """Each write took one, and nothing else did."""
        for turn in range(3 if left is None else left):
            disk.erase("zz")
        if left is not None:
            with self.assertRaises(Fallen):
                disk.erase("zz")


class WritesTest(TurnTest):
    def test_nothing_on_either_side(self):
        self.check({}, {}, [])

    def test_paths_only_on_the_disk(self):
        self.check({"f": ["1"]}, {}, [("erase", "f")])
        self.check({"g": [], "f": ["1"]}, {}, [("erase", "f"), ("erase", "g")])

    def test_paths_only_in_the_tree(self):
        self.check({}, {"f": ["1"]}, [("put", "f", ["1"])])
        self.check({}, {"g": ["2", ""], "f": []}, [("put", "f", []), ("put", "g", ["2", ""])])

    def test_other_lines(self):
        for lines, others in (
            (["1"], ["2"]), (["1"], []), ([], ["1"]), ([], [""]), ([""], []), (["1"], ["1", ""]),
            (["a", "b"], ["b", "a"]), (["a"], ["a "]), (["a", "b"], ["ab"]),
        ):
            self.check({"f": lines}, {"f": others}, [("put", "f", others)])

    def test_the_same_lines(self):
        for lines in ([], [""], ["1"], ["1", "", "2"], ["x" * 60] * 20, ["x"] * 40):
            self.check({"f": lines}, {"f": list(lines)}, [])
            self.check({"f": lines, "g": ["1"]}, {"g": ["2"], "f": list(lines)}, [("put", "g", ["2"])])

    def test_all_sorts_in_the_order_of_the_paths_of_both(self):
        self.check(
            {"e": ["5"], "c": ["3"], "a": ["1"], "f": ["6"]}, {"f": ["7"], "b": ["2"], "c": ["3"], "d": [], "e": ["6"]},
            [("erase", "a"), ("put", "b", ["2"]), ("put", "d", []), ("put", "e", ["6"]), ("put", "f", ["7"])],
        )
        self.check(
            {"b": ["2"], "d": []}, {"c": ["3"], "a": ["1"], "e": ["5"]},
            [("put", "a", ["1"]), ("erase", "b"), ("put", "c", ["3"]), ("erase", "d"), ("put", "e", ["5"])],
        )

    def test_paths_of_all_sorts_in_the_order_of_texts(self):
        paths = ["=ab", "=b", "a", "a.own", "a/b", "a/b.own", "ab", "b"]
        self.check({path: ["1"] for path in paths[::-1]}, {}, [("erase", path) for path in paths])
        self.check({}, {path: ["1"] for path in paths[::-1]}, [("put", path, ["1"]) for path in paths])
        expected = [("erase", path) if path in paths[::2] else ("put", path, ["2"]) for path in paths]
        self.check({path: ["1"] for path in paths[::2]}, {path: ["2"] for path in paths[::-1][::2]}, expected)

    def test_a_beginning_of_a_path_is_another_path(self):
        self.check({"a": ["1"]}, {"a/b": ["1"]}, [("erase", "a"), ("put", "a/b", ["1"])])
        self.check({"a/b": ["1"], "a": ["2"]}, {"a": ["2"]}, [("erase", "a/b")])
        expected = [("erase", "=a"), ("put", "a", ["2"]), ("erase", "a.own")]
        self.check({"a.own": ["1"], "=a": ["2"]}, {"a": ["2"]}, expected)

    def test_every_two_small_ones(self):
        ways = [None, [], ["1"]]
        for first in itertools.product(ways, repeat=3):
            for second in itertools.product(ways, repeat=3):
                files = {path: lines for path, lines in zip("bca", first) if lines is not None}
                tree = {path: lines for path, lines in zip("cab", second) if lines is not None}
                self.check(files, tree, turning_by_the_words(files, tree))


class HandedInTest(unittest.TestCase):
    def test_turned_again_nothing_is_written(self):
        disk = WatchedDisk({"f": ["1"], "g": ["2"]})
        tree = {"g": ["3"], "h": []}
        turn_to(disk, tree)
        self.assertEqual(len(disk.written), 3)
        disk.allow(0)
        self.assertIsNone(turn_to(disk, tree))
        self.assertEqual(len(disk.written), 3)

    def test_the_tree_changed_behind(self):
        disk = Disk()
        tree = {"f": ["1"], "g": []}
        turn_to(disk, tree)
        tree["f"].append("more")
        tree["g"].append("more")
        tree["h"] = ["more"]
        self.assertEqual(disk.files_now(), {"f": ["1"], "g": []})

    def test_one_list_at_two_paths(self):
        lines = ["1"]
        disk = Disk()
        turn_to(disk, {"f": lines, "g": lines})
        told = disk.files_now()
        told["f"].append("more")
        self.assertEqual(told["g"], ["1"])
        self.assertEqual(disk.files_now(), {"f": ["1"], "g": ["1"]})

    def test_the_book_is_not_asked(self):
        for book in ([], [("begin", "in a 1")], [("begin", "in a 1"), ("step", "a")]):
            disk = WatchedDisk({"f": ["1"]}, book)
            turn_to(disk, {"g": ["2"]})
            self.assertEqual(disk.book_now(), book)
            self.assertEqual(disk.files_now(), {"g": ["2"]})


if __name__ == "__main__":
    unittest.main()
