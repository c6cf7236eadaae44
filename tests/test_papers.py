"""Points 23 and 24, with 2, 6 and 12, and what point 3 says of papers: which papers hold."""

import copy
import unittest

from helpers import (
    Chance, are_met_by_the_words, contents_of, every_set, holds_by_the_words, is_sound_by_the_words, paper_told,
    parcel_of, reasons_by_the_words,
)
from parcelmend.papers import Leaf, Paper, Split
from parcelmend.parcels import Shelf

ONE = (1,)
TWO = (2,)
THREE = (3,)
ANY = ((), None)


class FieldsTest(unittest.TestCase):
    def test_classes(self):
        for paper in (Leaf(("wish", 0)), Split("a", [])):
            self.assertIsInstance(paper, Paper)
        self.assertFalse(issubclass(Leaf, Split))
        self.assertFalse(issubclass(Split, Leaf))

    def test_fields_by_the_names_of_the_arguments(self):
        leaf = Leaf(reason=("wish", 3))
        self.assertEqual(leaf.reason, ("wish", 3))
        split = Split(papers=[leaf], name="a")
        self.assertEqual(split.name, "a")
        self.assertIs(type(split.papers), list)
        self.assertEqual(len(split.papers), 1)
        self.assertIs(split.papers[0], leaf)

    def test_papers_handed_in_and_changed_behind(self):
        papers = [Leaf(("wish", 0)), Leaf(("wish", 1))]
        split = Split("a", papers)
        shelf = Shelf([parcel_of("a", ONE)])
        wishes = [("in", "a") + ANY, ("out", "a")]
        papers[0] = Leaf(())
        papers.append(Leaf(()))
        self.assertEqual(paper_told(split), ("split", "a", [("leaf", ("wish", 0)), ("leaf", ("wish", 1))]))
        self.assertIs(split.holds(shelf, wishes), True)
        papers.clear()
        self.assertIs(split.holds(shelf, wishes), True)


class HoldsTest(unittest.TestCase):
    def check(self, paper, shelf, wishes, expected):
        before = copy.deepcopy((paper_told(paper), contents_of(shelf), wishes))
        with self.subTest(paper=before[0], wishes=wishes):
            self.assertIs(paper.holds(shelf, wishes), expected)
            self.assertIs(paper.holds(shelf, wishes), expected)
            self.assertEqual((paper_told(paper), contents_of(shelf), wishes), before)
            self.assertIs(holds_by_the_words(paper, shelf, wishes), expected)
            if expected:
                self.check_right(shelf, wishes)

    def check_right(self, shelf, wishes):
        for chosen in every_set(shelf):
            self.assertFalse(is_sound_by_the_words(shelf, chosen) and are_met_by_the_words(chosen, wishes))

    def under(self, parcels, decisions, reason, expected, wishes=()):
        """Whether the reason holds with these names decided so, a make or None for absent each.

        Every other case is closed by a wish of its own for what is decided, numbered behind the wishes handed in.
        """
        shelf = Shelf(parcels)
        closing = [("out", name) if make is None else ("in", name, make, make + (0,)) for name, make in decisions]
        wishes = list(wishes) + closing
        paper = Leaf(reason)
        for number, (name, make) in reversed(list(enumerate(decisions, start=len(wishes) - len(closing)))):
            cases = [None] + shelf.makes_of(name)
            paper = Split(name, [paper if case == make else Leaf(("wish", number)) for case in cases])
        self.check(paper, shelf, wishes, expected)


class WishTest(HoldsTest):
    def parcels(self):
        return [parcel_of("a", make) for make in ((1,), (1, 2), (2,))] + [parcel_of("b", ONE, offers=["a", "m"])]

    def wish(self, decisions, wish, expected):
        self.under(self.parcels(), decisions, ("wish", 0), expected, [wish])
        # With others ahead and behind, and by its number alone.
        self.under(self.parcels(), decisions, ("wish", 2), expected, [("out", "m"), ("out", "m"), wish, ("out", "m")])
        self.under(self.parcels(), decisions, ("wish", 1), False, [wish, ("out", "m"), wish])

    def test_a_name_in_that_is_absent(self):
        for wish in (("in", "a") + ANY, ("in", "a", (1,), (2,)), ("in", "a", (9,), None), ("in", "a", (), (0,))):
            self.wish([("a", None)], wish, True)

    def test_a_make_that_does_not_do(self):
        for make, least, below in (
            ((1,), (1, 0), None), ((1,), (2,), None), ((1, 2), (1, 2, 0), None), ((1, 2), (1, 3), (2,)),
            ((1, 2), (), (1, 2)), ((1, 2), (), (1,)), ((2,), (1,), (2,)), ((2,), (), (1, 9)), ((2,), (2,), (2,)),
        ):
            self.wish([("a", make)], ("in", "a", least, below), True)

    def test_a_make_that_does(self):
        for make, least, below in (
            ((1,), (), None), ((1,), (1,), None), ((1, 2), (1,), (2,)), ((1, 2), (1, 2), (1, 2, 0)),
            ((1, 2), (), (1, 3)), ((2,), (1, 9), None), ((2,), (2,), (2, 0)),
        ):
            self.wish([("a", make)], ("in", "a", least, below), False)

    def test_a_name_in_that_is_not_decided(self):
        for wish in (("in", "a") + ANY, ("in", "a", (9,), None), ("in", "a", (), (0,)), ("in", "b", (1,), (1,))):
            self.wish([], wish, False)
        self.wish([("b", None)], ("in", "a", (9,), None), False)
        self.wish([("b", ONE)], ("in", "a") + ANY, False)
        self.wish([("a", None)], ("in", "b") + ANY, False)

    def test_a_name_out(self):
        for make in ((1,), (1, 2), (2,)):
            self.wish([("a", make)], ("out", "a"), True)
            self.wish([("a", make)], ("out", "b"), False)
        self.wish([("a", None)], ("out", "a"), False)
        self.wish([("b", ONE)], ("out", "a"), False)
        self.wish([], ("out", "a"), False)

    def test_a_name_that_no_parcel_has(self):
        for name in ("z", "m", "aa"):
            for decisions in ([], [("a", ONE)], [("b", ONE)], [("b", None)]):
                self.wish(decisions, ("in", name) + ANY, True)
                self.wish(decisions, ("in", name, ONE, TWO), True)
                self.wish(decisions, ("out", name), False)

    def test_a_name_that_no_parcel_has_split_all_the_same(self):
        self.wish([("z", None)], ("in", "z") + ANY, True)
        self.wish([("z", None)], ("out", "z"), False)
        self.wish([("z", None), ("a", ONE), ("z", None)], ("in", "z") + ANY, True)

    def test_of_a_shelf_without_parcels(self):
        self.under([], [], ("wish", 0), True, [("in", "a") + ANY])
        self.under([], [], ("wish", 0), False, [("out", "a")])
        self.under([], [("a", None)], ("wish", 1), True, [("out", "a"), ("in", "a") + ANY])

    def test_numbers(self):
        wishes = [("in", "z") + ANY] * 12
        for number in range(12):
            self.under([], [], ("wish", number), True, wishes)
        for number in (-1, -12, -13, 12, 13, 10 ** 9):
            self.under([], [], ("wish", number), False, wishes)
        for number in (-1, 0, 1):
            self.under([], [], ("wish", number), False, [])


class NeedTest(HoldsTest):
    def need(self, claim, others, decisions, expected):
        """Of a parcel m, which is decided to be in."""
        parcels = [parcel_of("m", ONE, needs=[("m",) + ANY, claim, ("m",) + ANY])] + others
        for decided in (decisions + [("m", ONE)], [("m", ONE)] + decisions):
            self.under(parcels, decided, ("need", "m", 1), expected)
            self.under(parcels, decided, ("need", "m", 0), False)
        # Not where the parcel itself is not decided to be in.
        self.under(parcels, decisions, ("need", "m", 1), False)
        self.under(parcels, decisions + [("m", None)], ("need", "m", 1), False)

    def test_nothing_of_the_shelf_meets_it(self):
        for claim in (("z",) + ANY, ("b", THREE, None), ("b", (), ONE), ("b", (1, 5), TWO), ("m", TWO, None)):
            self.need(claim, [parcel_of("b", ONE), parcel_of("b", TWO)], [], True)
        self.need(("z",) + ANY, [], [], True)

    def test_each_that_meets_it_is_decided_otherwise(self):
        others = [parcel_of("b", ONE), parcel_of("b", TWO), parcel_of("b", THREE), parcel_of("c", ONE)]
        for claim, decided, expected in (
            (("b",) + ANY, None, True), (("b",) + ANY, ONE, False), (("b",) + ANY, THREE, False),
            (("b", TWO, None), None, True), (("b", TWO, None), ONE, True), (("b", TWO, None), TWO, False),
            (("b", TWO, None), THREE, False), (("b", TWO, THREE), THREE, True), (("b", TWO, THREE), TWO, False),
            (("b", (), TWO), TWO, True), (("b", (), TWO), ONE, False),
        ):
            self.need(claim, others, [("b", decided)], expected)

    def test_not_decided(self):
        others = [parcel_of("b", ONE), parcel_of("c", ONE)]
        self.need(("b",) + ANY, others, [], False)
        self.need(("b",) + ANY, others, [("c", None)], False)
        self.need(("b",) + ANY, others, [("c", ONE)], False)
        self.need(("b", ONE, None), others, [], False)
        self.need(("b", TWO, None), others, [], True)

    def test_the_parcel_itself_meets_it(self):
        self.need(("m",) + ANY, [], [], False)
        self.need(("m", ONE, TWO), [], [], False)
        self.need(("m", TWO, None), [], [], True)

    def test_another_make_of_the_same_name_meets_it(self):
        self.need(("m", TWO, None), [parcel_of("m", TWO)], [], True)
        self.need(("m",) + ANY, [parcel_of("m", TWO)], [], False)

    def test_an_offer_meets_it(self):
        others = [parcel_of("b", ONE, offers=["x", "mail"]), parcel_of("b", TWO), parcel_of("c", ONE, offers=["mail"])]
        self.need(("mail",) + ANY, others, [], False)
        self.need(("mail",) + ANY, others, [("b", None)], False)
        self.need(("mail",) + ANY, others, [("c", None)], False)
        self.need(("mail",) + ANY, others, [("b", None), ("c", None)], True)
        self.need(("mail",) + ANY, others, [("b", TWO), ("c", None)], True)
        self.need(("mail",) + ANY, others, [("b", ONE), ("c", None)], False)
        self.need(("mail",) + ANY, others, [("b", TWO), ("c", ONE)], False)
        self.need(("mail", (0,), None), others, [], True)
        self.need(("mail", (), (9,)), others, [("b", ONE)], True)

    def test_an_offer_of_a_name_that_parcels_have(self):
        others = [parcel_of("b", ONE), parcel_of("c", ONE, offers=["b"])]
        self.need(("b",) + ANY, others, [("b", None)], False)
        self.need(("b",) + ANY, others, [("c", None)], False)
        self.need(("b",) + ANY, others, [("b", None), ("c", None)], True)
        self.need(("b", ONE, None), others, [("b", None)], True)

    def test_an_offer_of_its_own(self):
        parcels = [parcel_of("a", ONE, needs=[("mail",) + ANY, ("mail", ONE, None)], offers=["mail"])]
        self.under(parcels, [("a", ONE)], ("need", "a", 0), False)
        self.under(parcels, [("a", ONE)], ("need", "a", 1), True)

    def test_the_need_of_the_make_that_is_decided(self):
        parcels = [
            parcel_of("a", ONE, needs=[("b",) + ANY]), parcel_of("a", TWO, needs=[("z",) + ANY, ("z",) + ANY]),
            parcel_of("a", THREE), parcel_of("b", ONE),
        ]
        for make, number, expected in (
            (ONE, 0, False), (ONE, 1, False), (TWO, 0, True), (TWO, 1, True), (TWO, 2, False), (THREE, 0, False),
        ):
            self.under(parcels, [("a", make)], ("need", "a", number), expected)
        self.under(parcels, [("a", ONE), ("b", None)], ("need", "a", 0), True)
        self.under(parcels, [("a", TWO), ("b", None)], ("need", "b", 0), False)

    def test_numbers(self):
        parcels = [parcel_of("a", ONE, needs=[("z",) + ANY] * 8)]
        for number in range(8):
            self.under(parcels, [("a", ONE)], ("need", "a", number), True)
        for number in (-1, -8, -9, 8, 9, 10 ** 9):
            self.under(parcels, [("a", ONE)], ("need", "a", number), False)

    def test_names_that_the_shelf_does_not_have(self):
        parcels = [parcel_of("a", ONE, needs=[("z",) + ANY], offers=["mail"])]
        for name in ("z", "mail", "", "A", "a a"):
            self.under(parcels, [("a", ONE)], ("need", name, 0), False)
            self.under(parcels, [("a", ONE), (name, None)], ("need", name, 0), False)


class ShutTest(HoldsTest):
    def shut(self, claim, others, decisions, other, expected):
        """Of a parcel m, which is decided to be in."""
        parcels = [parcel_of("m", ONE, shuts=[("z",) + ANY, claim, ("z",) + ANY], offers=["mail"])] + others
        for decided in (decisions + [("m", ONE)], [("m", ONE)] + decisions):
            self.under(parcels, decided, ("shut", "m", 1, other), expected)
            self.under(parcels, decided, ("shut", "m", 2, other), False)
        self.under(parcels, decisions, ("shut", "m", 1, other), False)
        self.under(parcels, decisions + [("m", None)], ("shut", "m", 1, other), False)

    def test_another_name_that_meets_it(self):
        for name in ("b", "x"):
            others = [parcel_of(name, ONE), parcel_of(name, TWO), parcel_of("c", ONE)]
            for least, below, make, expected in (
                ((), None, ONE, True), ((), None, TWO, True), (TWO, None, ONE, False), (TWO, None, TWO, True),
                ((), TWO, ONE, True), ((), TWO, TWO, False), ((), None, None, False), (ONE, TWO, ONE, True),
            ):
                self.shut((name, least, below), others, [(name, make)], name, expected)
                self.shut((name, least, below), others, [("c", ONE), (name, make)], "c", False)

    def test_not_decided(self):
        others = [parcel_of("b", ONE), parcel_of("c", ONE, offers=["b"])]
        self.shut(("b",) + ANY, others, [], "b", False)
        self.shut(("b",) + ANY, others, [("c", ONE)], "b", False)
        self.shut(("b",) + ANY, others, [("c", None)], "b", False)
        self.shut(("b",) + ANY, others, [("b", ONE)], "c", False)

    def test_by_an_offer(self):
        others = [parcel_of("b", ONE, offers=["k", "mail"]), parcel_of("b", TWO), parcel_of("c", ONE)]
        self.shut(("mail",) + ANY, others, [("b", ONE)], "b", True)
        self.shut(("mail",) + ANY, others, [("b", TWO)], "b", False)
        self.shut(("mail",) + ANY, others, [("c", ONE)], "c", False)
        self.shut(("mail", (0,), None), others, [("b", ONE)], "b", False)
        self.shut(("mail", (), (9,)), others, [("b", ONE)], "b", False)
        # What is named is the parcel, not what it offers.
        self.shut(("mail",) + ANY, others, [("b", ONE)], "mail", False)

    def test_the_same_name(self):
        self.shut(("m",) + ANY, [], [], "m", False)
        self.shut(("m",) + ANY, [parcel_of("m", TWO)], [], "m", False)
        self.shut(("mail",) + ANY, [], [], "m", False)

    def test_the_shut_of_the_make_that_is_decided(self):
        parcels = [
            parcel_of("a", ONE, shuts=[("b",) + ANY]), parcel_of("a", TWO, shuts=[("z",) + ANY, ("b",) + ANY]),
            parcel_of("a", THREE), parcel_of("b", ONE),
        ]
        for make, number, expected in (
            (ONE, 0, True), (ONE, 1, False), (TWO, 0, False), (TWO, 1, True), (THREE, 0, False), (THREE, 1, False),
        ):
            self.under(parcels, [("a", make), ("b", ONE)], ("shut", "a", number, "b"), expected)
            self.under(parcels, [("a", make), ("b", ONE)], ("shut", "b", number, "a"), False)

    def test_numbers(self):
        parcels = [parcel_of("a", ONE, shuts=[("b",) + ANY] * 8), parcel_of("b", ONE)]
        for number in range(8):
            self.under(parcels, [("a", ONE), ("b", ONE)], ("shut", "a", number, "b"), True)
        for number in (-1, -8, -9, 8, 9, 10 ** 9):
            self.under(parcels, [("a", ONE), ("b", ONE)], ("shut", "a", number, "b"), False)

    def test_names_that_the_shelf_does_not_have(self):
        parcels = [parcel_of("a", ONE, shuts=[("z",) + ANY, ("b",) + ANY]), parcel_of("b", ONE)]
        for name in ("z", "", "B", "b b"):
            for decisions in ([("a", ONE), ("b", ONE)], [("a", ONE), ("b", ONE), (name, None)]):
                self.under(parcels, decisions, ("shut", "a", 0, name), False)
                self.under(parcels, decisions, ("shut", name, 1, "b"), False)


class ClashTest(HoldsTest):
    def parcels(self):
        return [
            parcel_of("a", ONE, files=[("f", ["x"]), ("g/h", [])]), parcel_of("a", TWO, files=[("k", [])]),
            parcel_of("b", ONE, files=[("i", []), ("g/h", ["y"]), ("f", ["x"])]), parcel_of("b", TWO),
            parcel_of("c", ONE, files=[("f", [])]),
        ]

    def clash(self, decisions, name, other, path, expected):
        for decided in (decisions, decisions[::-1]):
            self.under(self.parcels(), decided, ("clash", name, other, path), expected)

    def test_both_bring_the_path(self):
        both = [("a", ONE), ("b", ONE)]
        self.clash(both, "a", "b", "f", True)
        self.clash(both, "a", "b", "g/h", True)
        self.clash([("b", ONE), ("c", ONE)], "b", "c", "f", True)
        self.clash(both + [("c", ONE)], "a", "c", "f", True)

    def test_other_ahead_of_name_or_the_same(self):
        both = [("a", ONE), ("b", ONE)]
        self.clash(both, "b", "a", "f", False)
        self.clash(both, "b", "a", "g/h", False)
        self.clash(both, "a", "a", "f", False)
        self.clash(both, "b", "b", "f", False)

    def test_not_decided_or_absent(self):
        for decisions in (
            [], [("a", ONE)], [("b", ONE)], [("a", ONE), ("b", None)], [("a", None), ("b", ONE)],
            [("a", None), ("b", None)], [("a", ONE), ("c", ONE)],
        ):
            self.clash(decisions, "a", "b", "f", False)

    def test_a_path_that_only_one_brings_or_none(self):
        both = [("a", ONE), ("b", ONE)]
        for path in ("i", "k", "g", "h", "zz", "", "f/f", "F", "f.own"):
            self.clash(both, "a", "b", path, False)
        self.clash([("a", ONE), ("b", ONE), ("c", ONE)], "a", "c", "g/h", False)
        self.clash([("a", ONE), ("b", ONE), ("c", ONE)], "b", "c", "g/h", False)

    def test_another_make_does_not_bring_it(self):
        self.clash([("a", TWO), ("b", ONE)], "a", "b", "f", False)
        self.clash([("a", ONE), ("b", TWO)], "a", "b", "f", False)
        self.clash([("a", TWO), ("b", TWO)], "a", "b", "f", False)

    def test_names_that_the_shelf_does_not_have(self):
        both = [("a", ONE), ("b", ONE)]
        for name in ("aa", "z", "", "A"):
            for decisions in (both, both + [(name, None)]):
                self.clash(decisions, "a", name, "f", False)
                self.clash(decisions, name, "b", "f", False)


class WrongReasonTest(HoldsTest):
    """Each of these reasons stands where another one with these parts would be broken."""

    def parcels(self):
        return [
            parcel_of("a", ONE, 0, [("f", [])], [("z",) + ANY], [("b",) + ANY]),
            parcel_of("b", ONE, 0, [("f", [])], [("z",) + ANY], [("a",) + ANY]),
        ]

    def reason(self, reason, expected):
        self.under(self.parcels(), [("a", ONE), ("b", ONE)], reason, expected, [("in", "z") + ANY])

    def test_the_right_ones(self):
        for reason in (
            ("wish", 0), ("need", "a", 0), ("need", "b", 0), ("shut", "a", 0, "b"), ("shut", "b", 0, "a"),
            ("clash", "a", "b", "f"),
        ):
            self.reason(reason, True)

    def test_none_at_all(self):
        self.reason((), False)

    def test_other_words(self):
        for word in ("", "Wish", "wishes", "in", "out", "leaf", "wish ", "f", "a"):
            self.reason((word,), False)
            self.reason((word, 0), False)
        for word in ("", "wish", "Need", "needs", "shut", "clash", "a", "z"):
            self.reason((word, "a", 0), False)
        for word in ("", "wish", "need", "clash", "shuts", "Shut"):
            self.reason((word, "a", 0, "b"), False)
        for word in ("", "wish", "need", "shut", "Clash", "clashes"):
            self.reason((word, "a", "b", "f"), False)

    def test_fewer_parts(self):
        for reason in (
            ("wish",), ("need",), ("need", "a"), ("need", 0), ("shut",), ("shut", "a"), ("shut", "a", 0),
            ("shut", "a", "b"), ("clash",), ("clash", "a"), ("clash", "a", "b"), ("clash", "a", "f"),
        ):
            self.reason(reason, False)

    def test_more_parts(self):
        for reason in (
            ("wish", 0, 0), ("wish", 0, "a"), ("need", "a", 0, 0), ("need", "a", 0, "b"), ("need", "a", 0, "z"),
            ("shut", "a", 0, "b", "b"), ("shut", "a", 0, "b", 0), ("clash", "a", "b", "f", "f"),
            ("clash", "a", "b", "f", 0), ("wish", 0) * 2, ("need", "a", 0) * 2,
        ):
            self.reason(reason, False)

    def test_parts_in_each_others_place(self):
        for reason in (
            (0, "wish"), (0,), ("a",), ("need", 0, "a"), ("shut", "a", "b", 0), ("shut", 0, "a", "b"),
            ("shut", "b", "a", 0), ("clash", "f", "a", "b"), ("clash", "a", "f", "b"), ("clash", 0, "a", "f"),
            ("clash", "a", 0, "f"), ("clash", "a", "b", 0), ("wish", "a"), ("wish", "0"), ("need", "a", "0"),
        ):
            self.reason(reason, False)

    def test_parts_that_are_no_names_and_no_numbers(self):
        for part in (None, [], ["a"], (), {}, ONE):
            for reason in (
                (part,), (part, 0), ("wish", part), ("need", part, 0), ("need", "a", part), ("shut", part, 0, "b"),
                ("shut", "a", part, "b"), ("shut", "a", 0, part), ("clash", part, "b", "f"),
                ("clash", "a", part, "f"), ("clash", "a", "b", part),
            ):
                self.reason(reason, False)

    def test_truths_are_no_numbers(self):
        for reason in (("wish", False), ("need", "a", False), ("shut", "a", False, "b")):
            # Python holds it for equal to one that is broken, and so would the words' check.
            paper = Split("a", [Leaf(("wish", 0)), Split("b", [Leaf(("wish", 0)), Leaf(reason)])])
            self.assertIs(paper.holds(Shelf(self.parcels()), [("in", "z") + ANY]), False)


class SplitTest(HoldsTest):
    def shelf(self):
        return Shelf([parcel_of("b", TWO), parcel_of("a", TWO), parcel_of("a", ONE), parcel_of("b", (1, 5))])

    def wishes(self):
        return [("in", "a", TWO, None), ("in", "a", (), TWO), ("out", "a")]

    def leaves(self, *numbers):
        return [Leaf(("wish", number)) for number in numbers]

    def test_absent_first_then_the_makes_rising(self):
        for numbers, expected in (
            ((0, 0, 1), True), ((1, 0, 1), True), ((0, 2, 2), True), ((1, 2, 1), True), ((1, 0, 2), True),
            ((2, 0, 1), False), ((0, 1, 1), False), ((0, 0, 0), False), ((0, 1, 0), False),
        ):
            self.check(Split("a", self.leaves(*numbers)), self.shelf(), self.wishes(), expected)

    def test_one_too_few_or_too_many(self):
        for numbers in ((), (0,), (0, 0), (0, 1), (0, 0, 1, 1), (0, 0, 0, 1), (0, 0, 1) * 2):
            self.check(Split("a", self.leaves(*numbers)), self.shelf(), self.wishes(), False)

    def test_no_papers_where_nothing_would_be_asked(self):
        for wishes in ([], self.wishes(), [("in", "z") + ANY]):
            for name in ("a", "z"):
                self.check(Split(name, []), self.shelf(), wishes, False)
                self.check(Split(name, []), Shelf([]), wishes, False)

    def test_further_down(self):
        good = Split("a", self.leaves(0, 0, 1))
        for papers, expected in (
            ([good, good, good], True), ([good, good], False), ([good] * 4, False), ([good, good, Paper()], False),
            ([good, Split("a", self.leaves(0, 0)), good], False), ([good, good, Leaf(("wish", 0))], False),
            ([good, Split("z", [good]), good], True), ([good, Split("z", [good, good]), good], False),
        ):
            self.check(Split("b", papers), self.shelf(), self.wishes(), expected)
            self.check(Split("z", [Split("b", papers)]), self.shelf(), self.wishes(), expected)

    def test_a_name_that_the_shelf_does_not_have(self):
        shelf = self.shelf()
        wishes = [("in", "z") + ANY, ("out", "z")]
        self.check(Split("z", self.leaves(0)), shelf, wishes, True)
        self.check(Split("y", self.leaves(0)), shelf, wishes, True)
        self.check(Split("z", self.leaves(1)), shelf, wishes, False)
        self.check(Split("z", self.leaves(0, 1)), shelf, wishes, False)
        self.check(Split("z", self.leaves(0, 0)), shelf, wishes, False)
        self.check(Split("z", []), shelf, wishes, False)

    def test_an_offered_name_has_no_makes(self):
        shelf = Shelf([parcel_of("a", ONE, offers=["mail"])])
        wishes = [("in", "mail") + ANY]
        self.check(Split("mail", self.leaves(0)), shelf, wishes, True)
        self.check(Split("mail", self.leaves(0, 0)), shelf, wishes, False)

    def test_each_way_down_by_itself(self):
        """What is decided in one case is not decided beside it."""
        shelf = self.shelf()
        wishes = [("in", "b", (9,), None)]
        down = Split("b", self.leaves(0, 0, 0))
        self.check(Split("a", [down, down, down]), shelf, wishes, True)
        self.check(Split("a", [down, Leaf(("wish", 0)), down]), shelf, wishes, False)
        self.check(Split("a", [down, down, Leaf(("wish", 0))]), shelf, wishes, False)

    def test_a_name_split_twice(self):
        shelf = self.shelf()
        wishes = self.wishes()
        for upper in ("a", "b"):
            self.check(Split(upper, [Split("a", self.leaves(0, 0, 1))] * 3), shelf, wishes, True)
        # Within the case of absent the name is decided to a make again.
        self.check(Split("a", [Split("a", self.leaves(0, 1, 1))] + self.leaves(0, 1)), shelf, wishes, False)
        self.check(Split("a", [Split("a", self.leaves(0, 0, 0))] + self.leaves(0, 1)), shelf, wishes, False)
        self.check(Split("a", [Split("a", self.leaves(0, 0, 1))] + self.leaves(0, 1)), shelf, wishes, True)
        again = Split("a", self.leaves(0, 0, 0))
        self.check(Split("a", [Leaf(("wish", 0)), again, Leaf(("wish", 1))]), shelf, wishes, False)

    def test_a_name_split_twice_and_what_else_is_broken(self):
        parcels = [
            parcel_of("a", ONE, 0, [("f", [])], [("z",) + ANY], [("b",) + ANY]), parcel_of("a", TWO),
            parcel_of("b", ONE, 0, [("f", [])]),
        ]
        for reason in (("need", "a", 0), ("shut", "a", 0, "b"), ("clash", "a", "b", "f")):
            for first, second in ((ONE, TWO), (ONE, None), (TWO, ONE), (None, ONE), (ONE, ONE)):
                decisions = [("a", first), ("b", ONE), ("a", second)]
                self.under(parcels, decisions, reason, second == ONE)

    def test_of_the_base_class(self):
        for wishes in ([], [("in", "z") + ANY]):
            self.check(Paper(), Shelf([]), wishes, False)
            self.check(Paper(), self.shelf(), wishes, False)
            self.check(Split("z", [Paper()]), self.shelf(), wishes, False)
            self.check(Split("b", [Paper()] * 3), self.shelf(), wishes, False)

    def test_one_paper_in_several_places(self):
        leaf = Leaf(("wish", 0))
        self.check(Split("a", [leaf, leaf, leaf]), self.shelf(), [("in", "a", (9,), None)], True)

    def test_the_same_paper_over_other_shelves_and_wishes(self):
        paper = Split("a", self.leaves(0, 0, 1))
        for turn in range(2):
            self.check(paper, self.shelf(), self.wishes(), True)
            self.check(paper, Shelf([parcel_of("a", TWO)]), self.wishes(), False)
            self.check(paper, self.shelf(), self.wishes()[:1], False)
            self.check(paper, self.shelf(), self.wishes()[::-1], False)


class DeepTest(HoldsTest):
    def chain(self, names, last):
        paper = Leaf(last)
        for name in reversed(names):
            paper = Split(name, [Leaf(("wish", 0)), paper])
        return paper

    def test_sixteen_splits_of_names_that_the_shelf_does_not_have(self):
        shelf = Shelf([parcel_of("a", ONE)])
        wishes = [("in", "z") + ANY, ("out", "z")]
        for number, expected in ((0, True), (1, False)):
            paper = Leaf(("wish", number))
            for name in "bcdefghibcdefghi":
                paper = Split(name, [paper])
            self.check(paper, shelf, wishes, expected)

    def test_sixteen_splits_of_eight_names(self):
        names = "abcdefgh"
        parcels = [parcel_of(name, ONE, files=[("f", [])] if name in "ah" else []) for name in names]
        wishes = [("in", "z") + ANY]
        for order in (names * 2, (names * 2)[::-1], "aabbccddeeffgghh"):
            for last, expected in (
                (("clash", "a", "h", "f"), True), (("wish", 0), True), (("clash", "a", "g", "f"), False),
            ):
                self.check(self.chain(order, last), Shelf(parcels), wishes, expected)

    def test_some_thousand_leaves(self):
        shelf = Shelf([parcel_of("a", ONE, needs=[("b", TWO, None)]), parcel_of("b", ONE)])
        wishes = [("in", "a") + ANY]
        whole = Split("a", [Leaf(("wish", 0)), Leaf(("need", "a", 0))])
        broken = Split("a", [Leaf(("wish", 0)), Leaf(("need", "b", 0))])
        for first, expected in ((whole, True), (broken, False)):
            paper = first
            for number, name in enumerate("bababababa"):
                other = whole
                for below in range(number):
                    other = Split("b", [other, other])
                paper = Split(name, [other, paper])
            self.check(paper, shelf, wishes, expected)


class WhoeverMadeItTest(HoldsTest):
    """Papers of all sorts, most of them made so that they hold but for a slip here and there."""

    def paper(self, chance, shelf, wishes, decided, slips, most):
        names = ["a", "b", "c", "z"]
        broken = reasons_by_the_words(shelf, wishes, decided)
        if slips and chance.rolls.randrange(40) == 0:
            return Leaf(chance.one(self.reasons()))
        if broken and (most == 0 or chance.rolls.randrange(4) > 0):
            return Leaf(chance.one(broken))
        if most == 0:
            return Leaf(chance.one(self.reasons()))
        left = [name for name in names if name not in decided]
        name = chance.one(left) if left and chance.rolls.randrange(6) > 0 else chance.one(names)
        papers = []
        for case in ["absent"] + shelf.makes_of(name):
            papers.append(self.paper(chance, shelf, wishes, {**decided, name: case}, slips, most - 1))
        if slips and chance.rolls.randrange(60) == 0:
            papers.append(papers[0])
        return Split(name, papers)

    def reasons(self):
        return [
            (), ("wish", 0), ("wish", 1), ("wish", -1), ("need", "a", 0), ("need", "b", 1), ("shut", "a", 0, "b"),
            ("shut", "b", 0, "b"), ("shut", "c", 0, "a"), ("clash", "a", "b", "f"), ("clash", "b", "a", "f"),
            ("clash", "a", "c", "g"), ("need", "z", 0),
        ]

    def test_papers_of_all_sorts(self):
        told = {True: 0, False: 0}
        for number in range(250):
            chance = Chance(number)
            shelf = chance.shelf(["a", "b", "c"])
            wishes = chance.wishes(["a", "b", "c", "z"], 4)
            for slips in (False, True):
                paper = self.paper(chance, shelf, wishes, {}, slips, 5)
                expected = holds_by_the_words(paper, shelf, wishes)
                self.check(paper, shelf, wishes, expected)
                told[expected] = told[expected] + 1
        self.assertGreater(told[True], 100)
        self.assertGreater(told[False], 100)


if __name__ == "__main__":
    unittest.main()
