"""Point 36, with 2, 18, 26 and 27: files that are not as the tree of the stand tells, and mending them."""

import itertools
import unittest

from helpers import (
    DeedChance, HouseTest, WatchedDisk, behind_writes, parcel_of, parts_of, tree_by_the_words, turning_by_the_words,
)
from parcelmend.books import do_deed
from parcelmend.disks import Disk
from parcelmend.errors import Fallen
from parcelmend.houses import House
from parcelmend.parcels import Shelf
from parcelmend.stands import Stand

ONE = (1,)
TWO = (2,)
PARTS = ({"a": ONE, "b": ONE}, {}, {"f": (["1"], ["x"]), "k": ([], ["mine"])})
# The tree of these parts over the shelf below.
TREE = {"=m": ["a"], "conf/g": [], "f": ["p"], "f.own": ["x"], "h": ["b", ""], "k": ["mine"]}


def example_shelf():
    return Shelf([
        parcel_of("a", ONE, 1, [("f", ["p"]), ("conf/g", [])], offers=["m"]),
        parcel_of("b", ONE, 0, [("h", ["b", ""])], offers=["m"]), parcel_of("b", TWO, 2, [("h", ["b2"])]),
    ])


def looks_by_the_words(files, tree):
    gone = [(path, "gone") for path in tree if path not in files]
    unlike = [(path, "unlike") for path in tree if path in files and files[path] != tree[path]]
    strange = [(path, "strange") for path in files if path not in tree]
    return sorted(gone + unlike + strange)


class LookTest(HouseTest):
    def disk(self):
        disk = Disk()
        do_deed(example_shelf(), disk, Stand(*PARTS))
        return disk

    def check(self, shelf, disk, expected):
        """What look tells, and mend; with each number of writes up to the one that mend takes."""
        files = disk.files_now()
        book = disk.book_now()
        stand = parts_of(House(shelf, disk).stand())
        tree = tree_by_the_words(shelf, stand)
        writes = turning_by_the_words(files, tree)
        self.assertEqual([write[1] for write in writes], [path for path, word in expected])
        for many in list(range(len(writes) + 2)) + [None]:
            other = WatchedDisk(files, book)
            other.allow(many)
            self.look(House(shelf, other), expected)
            self.assertEqual((other.written, other.files_now()), ([], files))
            self.mend(House(shelf, other), many, writes, expected)
            self.assertEqual((other.files_now(), other.book_now()), behind_writes(files, book, other.written))
            self.assertEqual(parts_of(House(shelf, other).stand()), stand)
            self.assertIs(House(shelf, other).up(), True)
            self.look(House(shelf, other), expected[len(other.written):])
        self.assertEqual((disk.files_now(), disk.book_now()), (files, book))

    def look(self, house, expected):
        for turn in range(2):
            told = house.look()
            self.assertIs(type(told), list)
            self.assertEqual([type(look) for look in told], [tuple] * len(told))
            self.assertEqual(told, expected)
            told.append(("zz", "gone"))

    def mend(self, house, many, writes, expected):
        if many is not None and many < len(writes):
            self.refuse_with(Fallen, house.mend)
            self.assertEqual(house.disk.written, writes[:many])
            return
        told = house.mend()
        self.assertIs(type(told), list)
        self.assertEqual(told, expected)
        told.append(("zz", "gone"))
        self.assertEqual(house.disk.written, writes)
        self.assertEqual(house.mend(), [])
        self.assertEqual(house.disk.written, writes)

    def test_all_is_as_the_tree_tells(self):
        self.assertEqual(tree_by_the_words(example_shelf(), PARTS), TREE)
        self.assertEqual(self.disk().files_now(), TREE)
        self.check(example_shelf(), self.disk(), [])
        self.check(example_shelf(), Disk(), [])
        self.check(Shelf([]), Disk(), [])

    def test_gone(self):
        for path in TREE:
            disk = self.disk()
            disk.erase(path)
            self.check(example_shelf(), disk, [(path, "gone")])

    def test_unlike(self):
        for path in TREE:
            for lines in (["zz"], TREE[path] + [""], TREE[path] + ["zz"], ["zz"] + TREE[path]):
                disk = self.disk()
                disk.put(path, lines)
                self.check(example_shelf(), disk, [(path, "unlike")])
        disk = self.disk()
        disk.put("h", ["", "b"])
        disk.put("k", [])
        self.check(example_shelf(), disk, [("h", "unlike"), ("k", "unlike")])

    def test_strange(self):
        for path in ("=a", "=z", "a", "conf", "conf/g.own", "conf/g/h", "f.owner", "f/own", "h.own", "zz"):
            for lines in ([], ["1"]):
                disk = self.disk()
                disk.put(path, lines)
                self.check(example_shelf(), disk, [(path, "strange")])
                other = Disk()
                other.put(path, lines)
                self.check(example_shelf(), other, [(path, "strange")])

    def test_the_same_lines_put_by_hand(self):
        disk = self.disk()
        for path, lines in TREE.items():
            disk.erase(path)
            disk.put(path, lines)
        self.check(example_shelf(), disk, [])

    def test_all_sorts_by_path(self):
        disk = self.disk()
        for path in ("zz", "f/g", "=z", "g", "aa"):
            disk.put(path, ["1"])
        for path in ("k", "=m", "f"):
            disk.put(path, ["1"])
        for path in ("h", "f.own", "conf/g"):
            disk.erase(path)
        self.check(example_shelf(), disk, [
            ("=m", "unlike"), ("=z", "strange"), ("aa", "strange"), ("conf/g", "gone"), ("f", "unlike"),
            ("f.own", "gone"), ("f/g", "strange"), ("g", "strange"), ("h", "gone"), ("k", "unlike"), ("zz", "strange"),
        ])

    def test_every_way_to_spoil_three_paths(self):
        ways = [None, [], ["1"], ["2"]]
        shelf = Shelf([parcel_of("a", ONE, files=[("d", ["1"]), ("b", [])])])
        for lines in itertools.product(ways, repeat=3):
            disk = Disk()
            do_deed(shelf, disk, Stand({"a": ONE}, {}, {}))
            for path, here in zip("dbc", lines):
                disk.erase(path)
                if here is not None:
                    disk.put(path, here)
            self.check(shelf, disk, looks_by_the_words(disk.files_now(), {"d": ["1"], "b": []}))

    def test_no_deed_to_the_stand_that_is_there_mends(self):
        disk = self.disk()
        disk.put("f", ["spoilt"])
        disk.put("zz", [])
        disk.erase("k")
        disk.allow(0)
        house = House(example_shelf(), disk)
        files = disk.files_now()
        self.assertIs(house.come_up(), False)
        house.wish([])
        house.edit("d", [])
        house.edit("k", ["mine"])
        house.forget("h")
        house.choose("m", None)
        house.back(1)
        self.assertEqual(disk.files_now(), files)
        self.check(example_shelf(), disk, [("f", "unlike"), ("k", "gone"), ("zz", "strange")])

    def test_another_deed_mends_on_its_way(self):
        disk = self.disk()
        disk.put("f", ["spoilt"])
        disk.put("zz", [])
        disk.erase("k")
        House(example_shelf(), disk).choose("m", "b")
        self.assertEqual(disk.files_now(), {**TREE, "=m": ["b"]})
        self.check(example_shelf(), disk, [])

    def test_disks_spoilt_by_chance(self):
        names = ["a", "b", "c", "d"]
        words = set()
        for number in range(60):
            chance = DeedChance(number)
            shelf = chance.shelf(names)
            disk = Disk()
            parts = chance.parts(shelf, names)
            do_deed(shelf, disk, Stand(*parts))
            for turn in range(3):
                for path in chance.some(sorted(disk.files_now()) + ["f", "g.own", "=m", "zz"], 3):
                    if chance.one([0, 1]):
                        disk.put(path, chance.lines())
                    else:
                        disk.erase(path)
                expected = looks_by_the_words(disk.files_now(), tree_by_the_words(shelf, parts))
                words.update(word for path, word in expected)
                self.check(shelf, disk, expected)
        self.assertEqual(words, {"gone", "unlike", "strange"})


if __name__ == "__main__":
    unittest.main()
