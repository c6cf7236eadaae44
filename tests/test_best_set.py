"""Point 22, with 2, 12 and 20, and what point 3 says of wishes: the best set, or a paper that holds."""

import copy
import unittest

from helpers import (
    Chance, best_by_the_words, contents_of, every_set, holds_by_the_words, paper_told, parcel_of,
)
from parcelmend.errors import MendError, TooWide
from parcelmend.papers import Leaf, Paper
from parcelmend.parcels import Shelf
from parcelmend.wishes import Best, Outcome, Unmet, best_set

ONE = (1,)
TWO = (2,)
ANY = ((), None)


class OutcomeTest(unittest.TestCase):
    def test_classes(self):
        for outcome in (Best({}), Unmet(Paper())):
            self.assertIsInstance(outcome, Outcome)
        self.assertFalse(issubclass(Best, Unmet))
        self.assertFalse(issubclass(Unmet, Best))
        Outcome()

    def test_fields_by_the_names_of_the_arguments(self):
        self.assertEqual(Best(chosen={"a": ONE}).chosen, {"a": ONE})
        paper = Leaf(("wish", 0))
        self.assertIs(Unmet(paper=paper).paper, paper)

    def test_what_was_handed_in_changed_behind(self):
        chosen = {"a": ONE}
        best = Best(chosen)
        chosen["b"] = ONE
        chosen.pop("a")
        self.assertEqual(best.chosen, {"a": ONE})


class BestTest(unittest.TestCase):
    def ask(self, shelf, now, wishes):
        """What is told, with what was handed in as it was."""
        before = copy.deepcopy((contents_of(shelf), now, wishes))
        told = best_set(shelf, now, wishes)
        self.assertEqual((contents_of(shelf), now, wishes), before)
        return told

    def check(self, shelf, now, wishes, expected):
        with self.subTest(now=now, wishes=wishes):
            if expected is None:
                self.check_unmet(shelf, now, wishes)
            else:
                self.check_best(shelf, now, wishes, expected)

    def check_best(self, shelf, now, wishes, expected):
        for turn in range(2):
            told = self.ask(shelf, now, wishes)
            self.assertIs(type(told), Best)
            self.assertIs(type(told.chosen), dict)
            self.assertEqual(told.chosen, expected)
            self.assertIsNot(told.chosen, now)
            told.chosen["zz"] = ONE
            told.chosen.pop("a", None)

    def check_unmet(self, shelf, now, wishes):
        for turn in range(2):
            told = self.ask(shelf, now, wishes)
            self.assertIs(type(told), Unmet)
            self.assertIsInstance(told.paper, Paper)
            self.assertIs(told.paper.holds(shelf, wishes), True)
            self.assertTrue(holds_by_the_words(told.paper, shelf, wishes))
            self.check_size(told.paper)
            spoil(told.paper)

    def check_size(self, paper):
        """Papers that are handed in are at most so deep, with at most so many leaves; so are those told."""
        deep, leaves = size_of(paper_told(paper))
        self.assertLessEqual(deep, 16)
        self.assertLessEqual(leaves, 2000)

    def of_parcels(self, parcels, now, wishes, expected):
        shelf = Shelf(parcels)
        self.assertEqual(best_by_the_words(shelf, now, wishes), expected)
        for ordered in (parcels, parcels[::-1]):
            self.check(Shelf(ordered), now, wishes, expected)


def spoil(paper):
    if isinstance(paper, Leaf):
        paper.reason = ()
    else:
        for below in paper.papers:
            spoil(below)
        paper.papers.clear()


def size_of(told):
    if told[0] == "leaf":
        return (0, 1)
    sizes = [size_of(below) for below in told[2]]
    return (1 + max(deep for deep, leaves in sizes), sum(leaves for deep, leaves in sizes))


class NearestTest(BestTest):
    def test_without_parcels(self):
        self.of_parcels([], {}, [], {})
        self.of_parcels([], {}, [("out", "a")], {})
        self.of_parcels([], {}, [("in", "a") + ANY], None)

    def test_no_wishes_and_a_sound_set_now(self):
        parcels = [parcel_of("a", ONE), parcel_of("a", TWO), parcel_of("b", ONE, needs=[("a",) + ANY])]
        for now in ({}, {"a": ONE}, {"a": TWO}, {"a": ONE, "b": ONE}, {"b": ONE, "a": TWO}):
            self.of_parcels(parcels, now, [], now)

    def test_wishes_that_are_met_already(self):
        parcels = [parcel_of("a", ONE), parcel_of("a", TWO), parcel_of("b", ONE)]
        self.of_parcels(parcels, {"a": ONE}, [("in", "a") + ANY, ("out", "b"), ("out", "z")], {"a": ONE})

    def test_a_set_now_that_is_not_sound(self):
        parcels = [
            parcel_of("a", ONE, needs=[("b", TWO, None)]), parcel_of("b", ONE), parcel_of("b", TWO),
            parcel_of("c", ONE),
        ]
        self.of_parcels(parcels, {"a": ONE, "b": ONE}, [], {"a": ONE, "b": TWO})
        self.of_parcels(parcels, {"a": ONE}, [], {"a": ONE, "b": TWO})
        self.of_parcels(parcels, {"a": ONE, "c": ONE}, [("out", "b")], {"c": ONE})

    def test_the_fewest_names_come_ahead_of_greater_makes(self):
        parcels = [parcel_of("a", (number,)) for number in (1, 2, 3)] + [parcel_of("b", ONE), parcel_of("b", TWO)]
        self.of_parcels(parcels, {"a": ONE}, [("in", "b") + ANY], {"a": ONE, "b": TWO})
        self.of_parcels(parcels, {"a": ONE, "b": ONE}, [("in", "a", TWO, None)], {"a": (3,), "b": ONE})
        self.of_parcels(parcels, {"b": ONE}, [("in", "b", (), TWO)], {"b": ONE})

    def test_another_make_counts_as_much_as_coming_and_going(self):
        parcels = [
            parcel_of("a", ONE, shuts=[("c",) + ANY]), parcel_of("a", TWO), parcel_of("b", ONE), parcel_of("c", ONE),
        ]
        self.of_parcels(parcels, {"a": ONE, "b": ONE}, [("in", "c") + ANY], {"a": TWO, "b": ONE, "c": ONE})
        self.of_parcels(
            parcels[:1] + parcels[2:], {"a": ONE, "b": ONE}, [("in", "c") + ANY], {"b": ONE, "c": ONE},
        )

    def test_one_name_less_is_nearer_than_two_other_makes(self):
        parcels = [
            parcel_of("a", ONE), parcel_of("a", TWO, needs=[("b", TWO, None)]), parcel_of("b", ONE),
            parcel_of("b", TWO),
        ]
        self.of_parcels(parcels, {"a": ONE, "b": ONE}, [("out", "a")], {"b": ONE})
        self.of_parcels(parcels, {"a": TWO, "b": TWO}, [("in", "b", (), TWO)], {"a": ONE, "b": ONE})
        self.of_parcels(parcels[1:], {"a": TWO, "b": TWO}, [("in", "b", (), TWO)], {"b": ONE})


class GreatestTest(BestTest):
    def test_the_greatest_make(self):
        makes = [(1,), (1, 2), (1, 2, 0), (1, 3)]
        parcels = [parcel_of("a", make) for make in makes]
        self.of_parcels(parcels, {}, [("in", "a") + ANY], {"a": (1, 3)})
        self.of_parcels(parcels, {}, [("in", "a", (), (1, 3))], {"a": (1, 2, 0)})
        self.of_parcels(parcels, {"a": (1,)}, [("in", "a", (1, 2), (1, 2, 0))], {"a": (1, 2)})
        self.of_parcels(parcels, {"a": (1, 3)}, [("in", "a", (), (1, 2))], {"a": (1,)})

    def test_numbers_not_figures(self):
        self.of_parcels([parcel_of("a", (9,)), parcel_of("a", (10,))], {}, [("in", "a") + ANY], {"a": (10,)})

    def test_the_earlier_names_first(self):
        parcels = [
            parcel_of("a", ONE, offers=["m"]), parcel_of("b", ONE, offers=["m"]), parcel_of("c", TWO, offers=["m"]),
            parcel_of("x", ONE, needs=[("m",) + ANY]),
        ]
        self.of_parcels(parcels, {}, [("in", "x") + ANY], {"a": ONE, "x": ONE})
        self.of_parcels(parcels, {}, [("in", "x") + ANY, ("out", "a")], {"b": ONE, "x": ONE})

    def test_absent_is_less_than_any_make(self):
        parcels = [parcel_of("a", (0,), shuts=[("b",) + ANY]), parcel_of("b", TWO)]
        self.of_parcels(parcels, {"a": (0,), "b": TWO}, [], {"a": (0,)})

    def test_a_name_comes_in_only_where_it_must(self):
        self.of_parcels([parcel_of("a", ONE), parcel_of("b", ONE)], {}, [("in", "b") + ANY], {"b": ONE})


class MetTest(BestTest):
    def parcels(self):
        return [
            parcel_of("ed", (1,), 0, [("conf/ed", ["1"])], [("lib", (1,), (2,))], [], ["text"]),
            parcel_of("ed", (2,), 0, [("conf/ed", ["2"])], [("lib", (2,), None)], [], ["text"]),
            parcel_of("lib", (1, 4)), parcel_of("lib", (2, 1)),
            parcel_of("vi", (3,), 0, [("conf/ed", ["v"])], [], [("ed", (2,), None)], ["text"]),
            parcel_of("tool", (1,), 0, [], [("text",) + ANY, ("lib", (), (2,))], [], []),
        ]

    def test_needs(self):
        self.of_parcels(self.parcels(), {}, [("in", "ed") + ANY], {"ed": (2,), "lib": (2, 1)})
        self.of_parcels(self.parcels(), {}, [("in", "tool") + ANY], {"ed": (1,), "lib": (1, 4), "tool": (1,)})
        self.of_parcels(
            self.parcels(), {"vi": (3,)}, [("in", "tool") + ANY], {"lib": (1, 4), "tool": (1,), "vi": (3,)},
        )

    def test_shuts_and_clashes(self):
        self.of_parcels(self.parcels(), {"vi": (3,)}, [("in", "ed") + ANY], {"ed": (2,), "lib": (2, 1)})
        self.of_parcels(self.parcels(), {"ed": (1,), "lib": (1, 4)}, [("in", "vi") + ANY], {"vi": (3,), "lib": (1, 4)})
        self.of_parcels(self.parcels(), {}, [("in", "ed") + ANY, ("in", "vi") + ANY], None)

    def test_out(self):
        now = {"ed": (1,), "lib": (1, 4), "tool": (1,)}
        self.of_parcels(self.parcels(), now, [("out", "lib")], {})
        self.of_parcels(self.parcels(), now, [("out", "ed"), ("in", "tool") + ANY], {
            "lib": (1, 4), "tool": (1,), "vi": (3,),
        })
        self.of_parcels(self.parcels(), now, [("out", "zz")], now)

    def test_unmet(self):
        for wishes in (
            [("in", "zz") + ANY], [("in", "text") + ANY], [("in", "ed", (3,), None)], [("in", "ed", (), (1,))],
            [("in", "ed") + ANY, ("out", "ed")], [("in", "ed") + ANY, ("out", "lib")],
            [("in", "tool") + ANY, ("in", "lib", (2,), None)], [("in", "tool") + ANY, ("out", "vi"), ("out", "ed")],
            [("out", "ed"), ("out", "zz"), ("in", "zz") + ANY],
        ):
            for now in ({}, {"vi": (3,)}, {"ed": (1,), "lib": (1, 4)}, {"ed": (1,), "vi": (3,)}):
                self.of_parcels(self.parcels(), now, wishes, None)

    def test_a_ring_of_needs(self):
        names = "abcd"
        parcels = [parcel_of(name, ONE, needs=[(other,) + ANY]) for name, other in zip(names, "bcda")]
        self.of_parcels(parcels, {}, [("in", "c") + ANY], {name: ONE for name in names})
        self.of_parcels(parcels, {name: ONE for name in names}, [("out", "b")], {})
        self.of_parcels(parcels, {}, [("in", "c") + ANY, ("out", "b")], None)


class WordsOfThePointTest(BestTest):
    def test_shelves_of_all_sorts(self):
        names = ["a", "b", "c", "d"]
        best = 0
        unmet = 0
        for number in range(150):
            chance = Chance(number)
            shelf = chance.shelf(names)
            if len(every_set(shelf)) > 100:
                continue
            for turn in range(6):
                now = chance.one(every_set(shelf))
                wishes = chance.wishes(names + ["z"], 4)
                expected = best_by_the_words(shelf, now, wishes)
                self.check(shelf, now, wishes, expected)
                best = best + (expected not in (None, now))
                unmet = unmet + (expected is None)
        self.assertGreater(best, 100)
        self.assertGreater(unmet, 100)

    def test_one_of_both_always(self):
        shelf = Shelf([
            parcel_of("a", ONE, needs=[("b", TWO, None)]), parcel_of("a", TWO, shuts=[("b",) + ANY]),
            parcel_of("b", ONE, files=[("f", [])]), parcel_of("b", TWO, needs=[("c",) + ANY]),
            parcel_of("c", ONE, files=[("f", [])]),
        ])
        wished = [("out", name) for name in "abcz"] + [("in", name) + ANY for name in "abcz"]
        wished = wished + [("in", "a", (), TWO), ("in", "b", TWO, None)]
        for first in wished:
            for second in wished:
                for now in every_set(shelf):
                    wishes = [first, second]
                    self.check(shelf, now, wishes, best_by_the_words(shelf, now, wishes))


class TooWideTest(BestTest):
    def shelf(self, numbers):
        """So many makes of one name each, none of which asks for anything."""
        parcels = []
        for name, many in zip("abcdefgh", numbers):
            parcels.extend([parcel_of(name, (number,)) for number in range(many)])
        return Shelf(parcels)

    def test_refused_ahead_of_all(self):
        for numbers in ([4, 2, 2, 2, 2], [4, 4, 4, 3], [4] * 8, [1] * 7 + [3]):
            shelf = self.shelf(numbers)
            for now in ({}, {"a": (0,)}):
                for wishes in (
                    [], [("in", "a") + ANY], [("in", "zz") + ANY], [("out", "a"), ("in", "a") + ANY],
                    [("in", "a", (9,), None)],
                ):
                    with self.assertRaises(MendError) as caught:
                        best_set(shelf, now, wishes)
                    self.assertIs(type(caught.exception), TooWide)

    def test_just_400_is_answered(self):
        shelf = self.shelf([4, 4, 3, 3])
        self.check(shelf, {}, [], {})
        self.check(shelf, {"b": ONE}, [("in", "d") + ANY, ("in", "a", (), (3,))], {"a": TWO, "b": ONE, "d": TWO})
        self.check(shelf, {}, [("in", "zz") + ANY], None)
        self.check(shelf, {"a": ONE}, [("in", "d") + ANY, ("out", "d")], None)

    def test_400_where_only_full_cases_are_broken(self):
        parcels = []
        for name, many, other in (("a", 4, "b"), ("b", 4, "c"), ("c", 3, "d"), ("d", 3, "x")):
            needs = [(other,) + ANY]
            parcels.extend([parcel_of(name, (number,), needs=needs) for number in range(many)])
        self.check(Shelf(parcels), {}, [("in", "a") + ANY], None)
        self.check(Shelf(parcels), {"b": ONE}, [("out", "a")], {})

    def test_eight_names(self):
        shelf = self.shelf([1] * 8)
        everything = {name: (0,) for name in "abcdefgh"}
        self.check(shelf, {}, [("in", name) + ANY for name in "abcdefgh"], everything)
        self.check(shelf, everything, [("out", name) for name in "abcdefgh"], {})
        self.check(shelf, everything, [("out", name) for name in "abcdefgh"] + [("in", "h") + ANY], None)


if __name__ == "__main__":
    unittest.main()
