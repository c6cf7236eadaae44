"""Point 3, with 1, 18, 22, 24, 25 and 28 to 36: the promise over the whole, by many rows of deeds with falls."""

import copy
import unittest

from helpers import (
    DeedChance, WatchedDisk, behind_by_the_words, best_by_the_words, brought_by_the_words, contents_of,
    holds_by_the_words, is_sound_by_the_words, parts_of, tree_by_the_words,
)
from parcelmend.books import do_deed
from parcelmend.disks import Disk
from parcelmend.errors import Fallen
from parcelmend.houses import House
from parcelmend.parceltexts import read_shelf, shelf_shown
from parcelmend.stands import Stand
from parcelmend.standtexts import read_stand
from parcelmend.wishes import Best, Unmet

NAMES = ["a", "b", "c", "d"]
PATHS = ["f", "g", "h", "d/a", "e/b", "e/c"]
EMPTY = ({}, {}, {})


def without(entries, key):
    return {other: entry for other, entry in entries.items() if other != key}


def goal_by_the_words(shelf, formers, deed):
    """Where a deed leads: (what it is called, its arguments ..), from the last of the former stands."""
    chosen, choices, own = formers[-1]
    if deed[0] == "wish":
        best = best_by_the_words(shelf, chosen, deed[1])
        return (chosen if best is None else best, choices, own)
    if deed[0] == "edit":
        brought = brought_by_the_words(shelf, chosen).get(deed[1], [])
        own = without(own, deed[1])
        return (chosen, choices, own if deed[2] == brought else {**own, deed[1]: (brought, deed[2])})
    if deed[0] == "forget":
        return (chosen, choices, without(own, deed[1]))
    if deed[0] == "choose":
        choices = without(choices, deed[1])
        return (chosen, choices if deed[2] is None else {**choices, deed[1]: deed[2]}, own)
    if deed[0] == "back":
        return formers[deed[1]]
    return formers[-1]


class RoadChance(DeedChance):
    def deed(self, shelf, formers):
        path = self.one(PATHS)
        return self.one([
            ("wish", self.wishes(NAMES, 2)), ("wish", [("in",) + self.claim(NAMES)]),
            ("wish", [("out", self.one(NAMES))]),
            ("edit", path, self.lines()), ("edit", path, self.lines()), ("forget", path),
            ("choose", self.one(["m", "k"]), self.one(NAMES + [None])), ("back", self.rolls.randrange(len(formers))),
            ("mend",), ("look",),
        ])

    def spoil(self, disk):
        """Somebody writes by hand; told is where."""
        path = self.one([self.one(PATHS), self.one(PATHS) + ".own", "=m", "=k", "zz"])
        if self.one([0, 1]):
            disk.put(path, self.lines())
        else:
            disk.erase(path)
        return path


class Road:
    """A disk, its former stands by the words of the points, and the paths written by hand since the last begin."""

    def __init__(self, shelf):
        self.shelf = shelf
        self.disk = WatchedDisk()
        self.formers = [EMPTY]
        self.by_hand = set()

    def copied(self):
        road = Road(self.shelf)
        road.disk = WatchedDisk(self.disk.files_now(), self.disk.book_now())
        road.formers = list(self.formers)
        road.by_hand = set(self.by_hand)
        return road


class WholeTest(unittest.TestCase):
    def do(self, road, deed, many):
        """The deed with so many writes; told is whether it fell. The road then knows where it leads by point 3."""
        goal = goal_by_the_words(road.shelf, road.formers, deed)
        handed = copy.deepcopy(deed)
        road.disk.written = []
        road.disk.allow(many)
        fell = False
        try:
            self.check_answer(road, deed, getattr(House(road.shelf, road.disk), deed[0])(*deed[1:]))
        except Fallen:
            fell = True
            self.assertEqual(len(road.disk.written), many)
        self.assertEqual(deed, handed)
        if [write[:2] for write in road.disk.written][:1] == [("note", "begin")]:
            road.formers.append(goal)
            road.by_hand = set()
        elif deed[0] == "mend":
            self.assertLessEqual({write[1] for write in road.disk.written}, road.by_hand)
        else:
            self.assertEqual(road.disk.written, [])
        if not fell:
            self.assertEqual(road.formers[-1], goal)
        return fell

    def check_answer(self, road, deed, told):
        if deed[0] == "wish":
            best = best_by_the_words(road.shelf, road.formers[-1][0], deed[1])
            self.assertIs(type(told), Unmet if best is None else Best)
            if best is None:
                self.unmet = self.unmet + 1
                self.assertEqual(road.disk.written, [])
                self.assertIs(told.paper.holds(road.shelf, deed[1]), True)
                self.assertTrue(holds_by_the_words(told.paper, road.shelf, deed[1]))
            else:
                self.assertEqual(told.chosen, best)
        elif deed[0] in ("look", "mend"):
            self.assertLessEqual({path for path, word in told}, road.by_hand)
        else:
            self.assertIsNone(told)

    def come_up(self, road, chance):
        """It may fall at any write, again and again; each time another house over the disk goes on."""
        while not House(road.shelf, road.disk).up():
            road.disk.allow(chance.one([0, 1, 1, 2, 3, None]))
            try:
                self.assertIs(House(road.shelf, road.disk).come_up(), True)
            except Fallen:
                self.falls = self.falls + 1
                self.assertIs(House(road.shelf, road.disk).up(), False)
        road.disk.allow(0)
        self.assertIs(House(road.shelf, road.disk).come_up(), False)
        road.disk.allow(None)

    def check_up(self, road):
        house = House(road.shelf, road.disk)
        self.assertIs(house.up(), True)
        self.assertEqual(parts_of(house.stand()), road.formers[-1])
        self.assertEqual([parts_of(former) for former in house.formers()], road.formers)
        files = road.disk.files_now()
        tree = tree_by_the_words(road.shelf, road.formers[-1])
        unlike = {path for path in set(files) | set(tree) if files.get(path) != tree.get(path)}
        self.assertLessEqual(unlike, road.by_hand)

    def check_falls(self, road, deed, chance):
        """At every write, and with enough of them."""
        full = road.copied()
        self.assertFalse(self.do(full, deed, None))
        for many in range(len(full.disk.written) + 1):
            other = road.copied()
            self.assertEqual(self.do(other, deed, many), many < len(full.disk.written))
            self.check_falls_in_coming_up(other, chance)
            self.come_up(other, chance)
            self.check_up(other)
        return len(full.disk.written)

    def check_falls_in_coming_up(self, road, chance):
        """At every write again; from there on it falls where it may."""
        many = 0
        fell = not House(road.shelf, road.disk).up()
        while fell:
            other = road.copied()
            other.disk.allow(many)
            try:
                self.assertIs(House(other.shelf, other.disk).come_up(), True)
                fell = False
            except Fallen:
                self.assertEqual(len(other.disk.written), many)
                self.falls = self.falls + 1
            self.come_up(other, chance)
            self.check_up(other)
            many = many + 1

    def check_steps(self, road):
        """The set is sound ahead of the first step, between two and behind the last; coming up leads to the goal."""
        reached = {}
        goal = {}
        for kind, text in road.disk.book_now():
            if kind == "begin":
                goal = read_stand(text).chosen
            elif kind == "step":
                reached = behind_by_the_words(reached, goal, text.split(" "))
            else:
                reached = goal
            self.assertTrue(is_sound_by_the_words(road.shelf, reached))

    def check_other_roads(self, road, chance):
        """Whatever the past, one stand has the same files, unless somebody wrote by hand."""
        files = tree_by_the_words(road.shelf, road.formers[-1])
        for many in range(3):
            disk = Disk()
            for turn in range(many):
                do_deed(road.shelf, disk, Stand(*chance.parts(road.shelf, NAMES)))
            do_deed(road.shelf, disk, Stand(*road.formers[-1]))
            self.assertEqual(disk.files_now(), files)
        House(road.shelf, road.disk).mend()
        road.by_hand = set()
        self.assertEqual(road.disk.files_now(), files)

    def walk(self, number, turns):
        chance = RoadChance(number)
        road = Road(chance.shelf(NAMES))
        shelved = copy.deepcopy(contents_of(road.shelf))
        for turn in range(turns):
            if chance.one([0, 0, 0, 1]):
                road.by_hand.add(chance.spoil(road.disk))
            deed = chance.deed(road.shelf, road.formers)
            writes = self.check_falls(road, deed, chance)
            # The road itself goes on from one of these falls, or from none.
            self.do(road, deed, chance.one([None, chance.rolls.randrange(writes + 1)]))
            if not House(road.shelf, road.disk).up() and chance.one([0, 0, 1]):
                road.disk.allow(None)
                road.by_hand.add(chance.spoil(road.disk))
            self.come_up(road, chance)
            self.check_up(road)
            if turn + 1 == turns or chance.one([0, 0, 0, 1]):
                self.check_other_roads(road, chance)
        self.check_steps(road)
        self.assertEqual(contents_of(road.shelf), shelved)

    def test_many_roads(self):
        self.unmet = 0
        self.falls = 0
        for number in range(100):
            with self.subTest(number=number):
                self.walk(number, 12)
        self.assertGreater(self.unmet, 50)
        self.assertGreater(self.falls, 3000)

    def test_one_long_road(self):
        self.unmet = 0
        self.falls = 0
        self.walk(1000, 150)


class TwoRoadsTest(unittest.TestCase):
    """Two houses over one shelf that come to one stand by deeds of their own."""

    TEXT = "\n".join([
        "parcel a 1 2", "file f", "|1", "|p", "need b 1 2", "offer m", "parcel a 2 0", "file f", "|2", "|p",
        "need b 2 -", "offer m", "parcel b 1 1", "file g", "|1", "offer m", "parcel b 2 1", "file g", "|2", "file h",
        "offer m",
    ])

    def files_of(self, *deeds):
        shelf = read_shelf(self.TEXT)
        disk = Disk()
        for deed in deeds:
            getattr(House(shelf, disk), deed[0])(*deed[1:])
        self.assertEqual(shelf_shown(shelf), self.TEXT)
        return (parts_of(House(shelf, disk).stand()), disk.files_now())

    def test_the_same_files(self):
        first = self.files_of(
            ("wish", [("in", "a", (), (2,))]), ("edit", "f", ["x", "p"]), ("choose", "m", "b"),
            ("wish", [("in", "a", (2,), None)]),
        )
        second = self.files_of(
            ("edit", "h", ["zz"]), ("choose", "m", "b"), ("wish", [("in", "a", (), (2,))]), ("edit", "f", ["x", "p"]),
            ("wish", [("out", "b")]), ("wish", [("in", "b", (2,), None)]), ("forget", "h"),
            ("wish", [("in", "a", (), None)]),
        )
        self.assertEqual(first, second)
        self.assertEqual(first[1], {"=m": ["b"], "f": ["2", "p"], "f.own": ["x", "p"], "g": ["2"], "h": []})

    def test_to_and_back(self):
        first = self.files_of(("wish", [("in", "b", (), None)]))
        second = self.files_of(
            ("wish", [("in", "b", (), None)]), ("wish", [("in", "a", (), (2,))]), ("edit", "k", ["x"]), ("back", 2),
            ("back", 1),
        )
        self.assertEqual(first, second)
        self.assertEqual(self.files_of(("edit", "k", ["x"]), ("choose", "m", "a"), ("back", 0)), (EMPTY, {}))


if __name__ == "__main__":
    unittest.main()
