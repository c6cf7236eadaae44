"""Points 33 and 34, with 2, 4, 15, 16 and 18: what a person changes in files, and chooses among parcels."""

import copy
import itertools
import unittest

from helpers import (
    NO_NAMES, NO_PATHS, DeedChance, HouseTest, block_by_the_words, brought_by_the_words, parcel_of, parts_of,
    stands_within, tree_by_the_words,
)
from parcelmend.books import do_deed
from parcelmend.disks import Disk
from parcelmend.errors import NoName, NoPath
from parcelmend.houses import House
from parcelmend.parcels import Shelf
from parcelmend.stands import Stand

ONE = (1,)
TWO = (2,)
ANY = ((), None)
WITH_BLANKS = (" ", "\n", " a", "a ", "\na", "a\n", "a/b ", " a/b", "a/ b", "a\n/b")
NO_TEXTS = (5, True, ["f"], ("f",), b"f")


def example_shelf():
    return Shelf([
        parcel_of("a", ONE, 1, [("f", ["p", "q", "r"]), ("g", [])], offers=["m"]),
        parcel_of("a", TWO, 1, [("f", ["p", "y", "r"])], offers=["m"]),
        parcel_of("a", (3,), 1, [("f", ["p", "q", "r", "s"])], offers=["m"]),
        parcel_of("b", ONE, 2, [("conf/ed/x/y", ["b"])], offers=["m", "k"]),
        parcel_of("c", ONE, 3, [("h", ["c"])]),
    ])


class StandingTest(HouseTest):
    chosen = {"a": ONE, "b": ONE}
    choices = {"m": "a", "zz": "c"}
    own = {"g": ([], ["old"]), "k": ([], ["mine"])}

    def disk(self, own=None, choices=None):
        disk = Disk()
        parts = (self.chosen, self.choices if choices is None else choices, self.own if own is None else own)
        do_deed(example_shelf(), disk, Stand(*parts))
        return disk


class EditTest(StandingTest):
    def check(self, path, lines, own):
        """From the stand above; choices and the set stay. Done again, nothing is written."""
        handed = copy.deepcopy(lines)
        disk = self.disk()
        goal = (self.chosen, self.choices, own)
        told = self.check_deed(example_shelf(), disk, lambda house: house.edit(path, lines), goal)
        self.assertIsNone(told)
        self.assertEqual(lines, handed)
        self.assertEqual(disk.files_now(), tree_by_the_words(example_shelf(), goal))
        self.check_deed(example_shelf(), disk, lambda house: house.edit(path, lines), goal)
        disk.allow(0)
        self.assertIsNone(House(example_shelf(), disk).edit(path, lines))
        return disk

    def test_a_path_that_is_brought(self):
        disk = self.check("f", ["p", "x"], {**self.own, "f": (["p", "q", "r"], ["p", "x"])})
        self.assertEqual(disk.files_now()["f"], ["p", "x"])
        disk = self.check("f", [], {**self.own, "f": (["p", "q", "r"], [])})
        self.assertEqual(disk.files_now()["f"], [])
        disk = self.check("conf/ed/x/y", [""], {**self.own, "conf/ed/x/y": (["b"], [""])})
        self.assertEqual(disk.files_now()["conf/ed/x/y"], [""])

    def test_a_path_that_nobody_brings(self):
        for path in ("d", "abcdefgh", "f/g", "a/b/c/d", "abcdefgh/abcdefgh/abcdefgh/abcdefgh"):
            disk = self.check(path, ["x", ""], {**self.own, path: ([], ["x", ""])})
            self.assertEqual(disk.files_now()[path], ["x", ""])
        self.check("d", [""], {**self.own, "d": ([], [""])})

    def test_a_path_that_only_a_parcel_outside_brings(self):
        disk = self.check("h", ["c"], {**self.own, "h": ([], ["c"])})
        self.assertEqual(disk.files_now()["h"], ["c"])

    def test_the_lines_that_are_brought(self):
        disk = self.check("f", ["p", "q", "r"], self.own)
        self.assertEqual(disk.files_now()["f"], ["p", "q", "r"])
        disk = self.check("g", [], {"k": self.own["k"]})
        self.assertEqual(disk.files_now()["g"], [])

    def test_no_lines_where_nobody_brings_it(self):
        self.assertNotIn("d", self.check("d", [], self.own).files_now())
        self.assertNotIn("k", self.check("k", [], {"g": self.own["g"]}).files_now())

    def test_a_path_that_has_an_own_change(self):
        disk = self.check("g", ["new"], {**self.own, "g": ([], ["new"])})
        self.assertEqual(disk.files_now()["g"], ["new"])
        disk = self.check("k", ["new", "er"], {**self.own, "k": ([], ["new", "er"])})
        self.assertEqual(disk.files_now()["k"], ["new", "er"])

    def test_the_lines_that_are_there_already(self):
        self.check("g", ["old"], self.own)
        self.check("k", ["mine"], self.own)

    def test_the_base_is_what_is_brought_now(self):
        disk = self.disk({"f": (["q"], ["x"]), "k": (["z"], ["mine"])})
        self.assertEqual(disk.files_now()["f.own"], ["x"])
        goal = (self.chosen, self.choices, {"f": (["p", "q", "r"], ["x"]), "k": (["z"], ["mine"])})
        self.check_deed(example_shelf(), disk, lambda house: house.edit("f", ["x"]), goal)
        self.assertEqual(disk.files_now()["f"], ["x"])
        self.assertNotIn("f.own", disk.files_now())
        goal = (self.chosen, self.choices, {"f": (["p", "q", "r"], ["x"]), "k": ([], ["mine"])})
        self.check_deed(example_shelf(), disk, lambda house: house.edit("k", ["mine"]), goal)

    def test_what_is_on_the_disk_counts_for_nothing(self):
        disk = self.disk({})
        disk.put("f", ["spoilt"])
        disk.put("d", ["spoilt"])
        goal = (self.chosen, self.choices, {"f": (["p", "q", "r"], ["spoilt"])})
        self.check_deed(example_shelf(), disk, lambda house: house.edit("f", ["spoilt"]), goal)
        disk.put("d", ["spoilt"])
        goal = (self.chosen, self.choices, {"f": (["p", "q", "r"], ["spoilt"]), "d": ([], ["spoilt"])})
        self.check_deed(example_shelf(), disk, lambda house: house.edit("d", ["spoilt"]), goal)

    def test_lines_of_all_lengths_and_signs(self):
        signs = "".join(chr(code) for code in range(32, 127) if code != 37)
        marks = ["", " ", "<", ">", "|", "own f", "in a 1"]
        for lines in (["x" * 60] * 20, [signs[:60], signs[60:]], marks, [""] * 20):
            disk = self.check("f", lines, {**self.own, "f": (["p", "q", "r"], lines)})
            self.assertEqual(disk.files_now()["f"], lines)

    def test_lines_beyond_the_bounds_are_not_refused(self):
        for lines in (["x" * 61], ["x"] * 21, ["x" * 80] * 30):
            disk = self.check("f", lines, {**self.own, "f": (["p", "q", "r"], lines)})
            self.assertEqual(disk.files_now()["f"], lines)

    def test_the_lines_changed_behind(self):
        disk = self.disk()
        house = House(example_shelf(), disk)
        lines = ["x"]
        house.edit("f", lines)
        lines.append("more")
        self.assertEqual(house.stand().own["f"], (["p", "q", "r"], ["x"]))
        self.assertEqual(disk.files_now()["f"], ["x"])
        self.assertEqual(house.look(), [])
        house.stand().own["f"][0].append("more")
        self.assertEqual(brought_by_the_words(house.shelf, {"a": ONE})["f"], ["p", "q", "r"])

    def test_no_path(self):
        for path in NO_PATHS + WITH_BLANKS:
            with self.subTest(path=path):
                for lines in ([], ["x"]):
                    self.check_refused(example_shelf(), self.disk(), lambda house: house.edit(path, lines), NoPath)

    def test_what_is_no_text_is_no_path(self):
        for path in NO_TEXTS:
            self.check_refused(example_shelf(), self.disk(), lambda house: house.edit(path, ["x"]), NoPath)
            self.check_refused(example_shelf(), self.disk(), lambda house: house.forget(path), NoPath)


class ForgetTest(StandingTest):
    def check(self, disk, path, own):
        goal = (self.chosen, self.choices, own)
        self.assertIsNone(self.check_deed(example_shelf(), disk, lambda house: house.forget(path), goal))
        self.assertEqual(disk.files_now(), tree_by_the_words(example_shelf(), goal))

    def test_a_path_with_an_own_change(self):
        disk = self.disk()
        self.check(disk, "g", {"k": ([], ["mine"])})
        self.assertEqual(disk.files_now()["g"], [])
        self.check(disk, "k", {})
        self.assertNotIn("k", disk.files_now())

    def test_what_lay_beside_goes(self):
        disk = self.disk({"f": (["q"], ["x"]), "k": ([], ["mine"])})
        self.assertEqual(disk.files_now()["f.own"], ["x"])
        self.check(disk, "f", {"k": ([], ["mine"])})
        self.assertEqual(disk.files_now()["f"], ["p", "q", "r"])
        self.assertNotIn("f.own", disk.files_now())

    def test_a_path_without_one(self):
        disk = self.disk()
        many = len(disk.book_now())
        disk.put("f", ["spoilt"])
        disk.allow(0)
        for path in ("f", "d", "h", "conf/ed/x/y", "a/b/c/d", "g/g", "abcdefgh"):
            self.assertIsNone(House(example_shelf(), disk).forget(path))
        self.assertEqual(len(disk.book_now()), many)
        self.assertEqual(disk.files_now()["f"], ["spoilt"])

    def test_an_edit_forgotten(self):
        disk = self.disk()
        files = disk.files_now()
        House(example_shelf(), disk).edit("f", ["x"])
        self.check(disk, "f", self.own)
        self.assertEqual(disk.files_now(), files)

    def test_no_path(self):
        for path in NO_PATHS + WITH_BLANKS:
            with self.subTest(path=path):
                self.check_refused(example_shelf(), self.disk(), lambda house: house.forget(path), NoPath)


class ChooseTest(StandingTest):
    def check(self, disk, common, name, choices):
        goal = (self.chosen, choices, self.own)
        self.assertIsNone(self.check_deed(example_shelf(), disk, lambda house: house.choose(common, name), goal))
        self.assertEqual(disk.files_now(), tree_by_the_words(example_shelf(), goal))

    def test_one_that_offers_it_and_is_in(self):
        disk = self.disk(choices={})
        self.assertEqual(disk.files_now()["=m"], ["b"])
        self.check(disk, "m", "a", {"m": "a"})
        self.assertEqual(disk.files_now()["=m"], ["a"])
        self.check(disk, "m", "b", {"m": "b"})
        self.assertEqual(disk.files_now()["=m"], ["b"])
        self.check(disk, "k", "b", {"m": "b", "k": "b"})

    def test_one_that_is_not_in_or_does_not_offer_it(self):
        for name in ("c", "zz", "m", "abcdefgh"):
            disk = self.disk()
            self.check(disk, "m", name, {**self.choices, "m": name})
            self.assertEqual(disk.files_now()["=m"], ["b"])

    def test_a_common_name_that_nobody_offers(self):
        disk = self.disk()
        self.check(disk, "nobody", "a", {**self.choices, "nobody": "a"})
        self.assertNotIn("=nobody", disk.files_now())
        self.check(disk, "abcdefgh", "zz", {**self.choices, "nobody": "a", "abcdefgh": "zz"})

    def test_the_choice_comes_to_count_later(self):
        disk = Disk()
        house = House(example_shelf(), disk)
        house.choose("m", "a")
        house.wish([("in", "b") + ANY])
        self.assertEqual(disk.files_now()["=m"], ["b"])
        house.wish([("in", "a") + ANY])
        self.assertEqual(disk.files_now()["=m"], ["a"])
        house.wish([("out", "a")])
        self.assertEqual(disk.files_now()["=m"], ["b"])
        self.assertEqual(house.stand().choices, {"m": "a"})

    def test_none(self):
        disk = self.disk()
        self.check(disk, "m", None, {"zz": "c"})
        self.assertEqual(disk.files_now()["=m"], ["b"])
        self.check(disk, "zz", None, {})

    def test_none_where_nothing_was_chosen(self):
        disk = self.disk()
        many = len(disk.book_now())
        disk.allow(0)
        for common in ("k", "nobody", "a", "abcdefgh"):
            self.assertIsNone(House(example_shelf(), disk).choose(common, None))
        self.assertEqual(len(disk.book_now()), many)

    def test_what_was_chosen_already(self):
        disk = self.disk()
        many = len(disk.book_now())
        disk.allow(0)
        self.assertIsNone(House(example_shelf(), disk).choose("m", "a"))
        self.assertEqual(len(disk.book_now()), many)

    def test_no_name(self):
        for name in NO_NAMES + WITH_BLANKS:
            with self.subTest(name=name):
                for do in (
                    lambda house: house.choose(name, "a"), lambda house: house.choose(name, None),
                    lambda house: house.choose("m", name), lambda house: house.choose("nobody", name),
                    lambda house: house.choose(name, name),
                ):
                    self.check_refused(example_shelf(), self.disk(), do, NoName)

    def test_what_is_no_text_is_no_name(self):
        for name in NO_TEXTS:
            self.check_refused(example_shelf(), self.disk(), lambda house: house.choose(name, "a"), NoName)
            self.check_refused(example_shelf(), self.disk(), lambda house: house.choose("m", name), NoName)
        self.check_refused(example_shelf(), self.disk(), lambda house: house.choose(None, "a"), NoName)


class NothingIsLostTest(HouseTest):
    """Points 15 and 16, through a house: parcels change under an own change."""

    def check_kept(self, files, path, base, mine):
        """The lines of mine that are not of base stand one behind the other in the file, or all of mine beside it."""
        if path + ".own" in files:
            self.assertEqual(files[path + ".own"], mine)
        else:
            self.assertTrue(stands_within(block_by_the_words(base, mine)[2], files[path]), (files, path, base, mine))

    def test_put_together_beside_and_back(self):
        disk = Disk()
        house = House(example_shelf(), disk)
        house.wish([("in", "a", (), TWO)])
        house.edit("f", ["p", "x", "r"])
        self.assertEqual(disk.files_now()["f"], ["p", "x", "r"])
        house.wish([("in", "a", (3,), None)])
        self.assertEqual(disk.files_now(), {"=m": ["a"], "f": ["p", "x", "r", "s"]})
        house.wish([("in", "a", TWO, (3,))])
        self.assertEqual(disk.files_now(), {"=m": ["a"], "f": ["p", "y", "r"], "f.own": ["p", "x", "r"]})
        house.wish([("out", "a")])
        self.assertEqual(disk.files_now(), {"f": ["p", "x", "r"]})
        house.wish([("in", "a", (), TWO)])
        self.assertEqual(disk.files_now(), {"=m": ["a"], "f": ["p", "x", "r"], "g": []})
        house.forget("f")
        self.assertEqual(disk.files_now(), {"=m": ["a"], "f": ["p", "q", "r"], "g": []})

    def test_a_file_that_a_parcel_brings_only_later(self):
        disk = Disk()
        house = House(example_shelf(), disk)
        house.edit("f", ["mine"])
        house.wish([("in", "a") + ANY])
        self.assertEqual(disk.files_now(), {"=m": ["a"], "f": ["p", "q", "r", "s"], "f.own": ["mine"]})
        house.edit("f", ["p", "q", "r", "s", "mine"])
        self.assertEqual(disk.files_now(), {"=m": ["a"], "f": ["p", "q", "r", "s", "mine"]})

    def test_every_way_between_the_makes(self):
        shelf = example_shelf()
        written = (["x"], [], ["p", "x", "r"], ["p", "q", "r", "s", "x"])
        for first, mine in itertools.product(shelf.makes_of("a"), written):
            disk = Disk()
            house = House(shelf, disk)
            do_deed(shelf, disk, Stand({"a": first}, {}, {}))
            house.edit("f", mine)
            base = brought_by_the_words(shelf, {"a": first})["f"]
            for make in shelf.makes_of("a") + shelf.makes_of("a")[::-1]:
                house.wish([("in", "a", make, make + (0,))])
                self.assertEqual(house.stand().chosen, {"a": make})
                self.assertEqual(house.stand().own, {"f": (base, mine)})
                self.check_kept(disk.files_now(), "f", base, mine)

    def test_own_changes_of_all_sorts(self):
        names = ["a", "b", "c", "d"]
        besides = 0
        for number in range(80):
            chance = DeedChance(number)
            shelf = chance.shelf(names)
            disk = Disk()
            house = House(shelf, disk)
            own = {}
            for turn in range(12):
                name = chance.one(names)
                house.wish([chance.one([("in", name) + ANY, ("out", name)])])
                if turn < 6:
                    path = chance.one(["f", "g", "h", "d/a", "e/b"])
                    brought = brought_by_the_words(shelf, house.stand().chosen).get(path, [])
                    lines = chance.lines()
                    own.pop(path, None)
                    if lines != brought:
                        own[path] = (brought, lines)
                    house.edit(path, lines)
                self.assertEqual(house.stand().own, own)
                for path, (base, mine) in own.items():
                    self.check_kept(disk.files_now(), path, base, mine)
                besides = besides + len([path for path in disk.files_now() if path.endswith(".own")])
                self.assertEqual(disk.files_now(), tree_by_the_words(shelf, parts_of(house.stand())))
        self.assertGreater(besides, 50)


if __name__ == "__main__":
    unittest.main()
