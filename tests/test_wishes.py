"""Points 20 and 21, with 2 and 5: whether a set meets wishes, and the width of a shelf."""

import copy
import itertools
import unittest

from helpers import Chance, are_met_by_the_words, contents_of, every_set, parcel_of
from parcelmend.parcels import Shelf
from parcelmend.wishes import are_met, width_of

ANY = ((), None)


class MetTest(unittest.TestCase):
    def check(self, chosen, wishes, expected):
        handed = (copy.deepcopy(chosen), copy.deepcopy(wishes))
        with self.subTest(chosen=chosen, wishes=wishes):
            self.assertIs(are_met(chosen, wishes), expected)
            self.assertIs(are_met(chosen, wishes), expected)
            self.assertEqual((chosen, wishes), handed)

    def test_no_wishes(self):
        self.check({}, [], True)
        self.check({"a": (1,)}, [], True)

    def test_a_name_wished_in_that_is_absent(self):
        self.check({}, [("in", "a") + ANY], False)
        self.check({"b": (1,)}, [("in", "a") + ANY], False)
        self.check({"aa": (1,), "b": (1,)}, [("in", "a", (0,), None)], False)
        self.check({"b": (1,)}, [("in", "a", (), (9,))], False)

    def test_a_name_wished_in_whatever_its_make(self):
        for make in ((0,), (0, 0, 0), (10 ** 9,), (10 ** 9, 10 ** 9, 10 ** 9)):
            self.check({"a": make}, [("in", "a") + ANY], True)

    def test_least(self):
        for make, expected in (
            ((1, 1), False), ((1,), False), ((1, 1, 10 ** 9), False), ((0, 9), False),
            ((1, 2), True), ((1, 2, 0), True), ((1, 3), True), ((2,), True), ((10,), True),
        ):
            self.check({"a": make}, [("in", "a", (1, 2), None)], expected)

    def test_below(self):
        for make, expected in (
            ((1, 1), True), ((1,), True), ((0,), True), ((1, 1, 10 ** 9), True),
            ((1, 2), False), ((1, 2, 0), False), ((1, 3), False), ((2,), False), ((10,), False),
        ):
            self.check({"a": make}, [("in", "a", (), (1, 2))], expected)

    def test_least_and_below(self):
        for make, expected in (((1,), False), ((1, 2), True), ((1, 9), True), ((2,), False), ((2, 0), False)):
            self.check({"a": make}, [("in", "a", (1, 2), (2,))], expected)
        for make in ((1,), (1, 2), (1, 2, 0), (2,)):
            self.check({"a": make}, [("in", "a", (1, 2), (1, 2))], False)
            self.check({"a": make}, [("in", "a", (2,), (1,))], False)

    def test_a_name_wished_out(self):
        self.check({}, [("out", "a")], True)
        self.check({"b": (1,), "aa": (1,)}, [("out", "a")], True)
        self.check({"a": (1,)}, [("out", "a")], False)
        self.check({"b": (1,), "a": (0,)}, [("out", "a")], False)

    def test_several(self):
        wishes = [("in", "a", (1,), (2,)), ("out", "b"), ("in", "c") + ANY, ("out", "z")]
        self.check({"a": (1,), "c": (0,)}, wishes, True)
        self.check({"a": (1,), "c": (0,), "d": (3,)}, wishes, True)
        self.check({"a": (2,), "c": (0,)}, wishes, False)
        self.check({"a": (1,), "b": (1,), "c": (0,)}, wishes, False)
        self.check({"a": (1,)}, wishes, False)
        self.check({"a": (1,), "c": (0,), "z": (1,)}, wishes, False)
        self.check({"b": (1,)}, wishes, False)

    def test_several_for_one_name(self):
        wishes = [("in", "a", (1,), None), ("in", "a", (), (2,)), ("in", "a") + ANY]
        self.check({"a": (1, 5)}, wishes, True)
        self.check({"a": (0,)}, wishes, False)
        self.check({"a": (2,)}, wishes, False)
        for chosen in ({}, {"a": (1, 5)}):
            self.check(chosen, [("in", "a") + ANY, ("out", "a")], False)
            self.check(chosen, [("out", "a"), ("in", "a") + ANY], False)

    def test_twelve_of_which_one_is_not_met(self):
        names = "abcdefghijkl"
        chosen = {name: (1,) for name in names}
        wishes = [("in", name) + ANY for name in names]
        self.check(chosen, wishes, True)
        for number, name in enumerate(names):
            self.check(chosen, wishes[:number] + [("out", name)] + wishes[number + 1:], False)

    def test_offers_count_for_nothing(self):
        parcels = [parcel_of("a", (1,), offers=["mail", "b"])]
        self.assertEqual(Shelf(parcels).names(), ["a"])
        self.check({"a": (1,)}, [("in", "mail") + ANY], False)
        self.check({"a": (1,)}, [("out", "mail"), ("out", "b")], True)

    def test_by_the_words_of_the_point(self):
        bounds = [(), (1,), (1, 0), (1, 2), (2,)]
        wishes = [("out", "a"), ("out", "b")]
        for least, below in itertools.product(bounds, [None] + bounds[1:]):
            wishes.append(("in", "a", least, below))
        wishes.append(("in", "b", (1, 2), None))
        sets = [{}] + [{"a": make} for make in bounds[1:]] + [{"b": (1, 2)}, {"b": (2,), "a": (1, 0)}]
        for chosen in sets:
            for first, second in itertools.product(wishes, wishes):
                self.check(chosen, [first, second], are_met_by_the_words(chosen, [first, second]))


class WidthTest(unittest.TestCase):
    def check(self, numbers, expected):
        """So many makes of one name each."""
        parcels = []
        for name, many in zip("abcdefgh", numbers):
            parcels.extend([parcel_of(name, (number,), needs=[("z",) + ANY]) for number in range(many)])
        for ordered in (parcels, parcels[::-1]):
            shelf = Shelf(ordered)
            before = copy.deepcopy(contents_of(shelf))
            told = width_of(shelf)
            self.assertIs(type(told), int)
            self.assertEqual(told, expected)
            self.assertEqual(contents_of(shelf), before)
            self.assertEqual(len(every_set(shelf)), expected)

    def test_without_parcels(self):
        self.check([], 1)

    def test_one_name(self):
        for many in (1, 2, 3, 4):
            self.check([many], many + 1)

    def test_several_names(self):
        self.check([1, 1], 4)
        self.check([1, 2, 3, 4], 120)
        self.check([4, 3, 2, 1], 120)
        self.check([4, 4, 3, 3], 400)
        self.check([4, 2, 2, 2, 2], 405)
        self.check([1] * 8, 256)

    def test_the_widest_shelf(self):
        parcels = [parcel_of(name, (number,)) for name in "abcdefgh" for number in range(4)]
        self.assertEqual(width_of(Shelf(parcels)), 390625)

    def test_only_names_of_parcels_count(self):
        parcel = parcel_of("a", (1,), 0, [("f", [])], [("b",) + ANY], [("c",) + ANY], ["d", "e"])
        self.assertEqual(width_of(Shelf([parcel])), 2)

    def test_shelves_of_all_sorts(self):
        for number in range(20):
            shelf = Chance(number).shelf(["a", "b", "c"])
            self.assertEqual(width_of(shelf), len(every_set(shelf)))


if __name__ == "__main__":
    unittest.main()
