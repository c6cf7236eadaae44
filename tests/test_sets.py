"""Points 11 and 12, with 2 and 6: the faults of a set, and whether it is sound."""

import copy
import unittest

from helpers import contents_of, every_set, faults_by_the_words, parcel_of
from parcelmend.parcels import Shelf
from parcelmend.sets import faults_of, is_sound

ONE = (1,)
ANY = ((), None)


class SetsTest(unittest.TestCase):
    def check_chosen(self, parcels, chosen, expected):
        """Whatever order the dict was filled in, and asked twice."""
        shelf = Shelf(parcels)
        before = copy.deepcopy(contents_of(shelf))
        for order in (list(chosen), list(chosen)[::-1], sorted(chosen)):
            handed = {name: chosen[name] for name in order}
            with self.subTest(handed=handed):
                told = faults_of(shelf, handed)
                self.assertIs(type(told), list)
                self.assertEqual(told, expected)
                self.assertEqual([type(fault) for fault in told], [tuple] * len(told))
                self.assertIs(is_sound(shelf, handed), len(expected) == 0)
                self.assertEqual(list(handed.items()), [(name, chosen[name]) for name in order])
                told.append(("need", "x", 0))
                self.assertEqual(faults_of(shelf, handed), expected)
                self.assertIs(is_sound(shelf, handed), len(expected) == 0)
        self.assertEqual(contents_of(shelf), before)

    def check(self, parcels, expected):
        """The set of all these parcels, each of another name."""
        self.check_chosen(parcels, {parcel.name: parcel.make for parcel in parcels}, expected)


class SoundTest(SetsTest):
    def test_without_parcels(self):
        self.check_chosen([], {}, [])
        self.check_chosen([parcel_of("a", ONE, needs=[("b",) + ANY])], {}, [])

    def test_parcels_that_ask_for_nothing(self):
        self.check([parcel_of("a", ONE, files=[("f", ["x"])]), parcel_of("b", ONE, files=[("g", ["x"])])], [])

    def test_only_the_parcels_of_the_set_count(self):
        shelf = [
            parcel_of("a", (1,), needs=[("b", (2,), None)], shuts=[("c",) + ANY], files=[("f", [])]),
            parcel_of("a", (2,)),
            parcel_of("b", (1,)), parcel_of("b", (2,), files=[("f", [])]),
            parcel_of("c", (1,)),
        ]
        self.check_chosen(shelf, {"a": (1,)}, [("need", "a", 0)])
        self.check_chosen(shelf, {"a": (2,)}, [])
        self.check_chosen(shelf, {"a": (1,), "b": (1,)}, [("need", "a", 0)])
        self.check_chosen(shelf, {"a": (1,), "b": (2,)}, [("clash", "a", "b", "f")])
        self.check_chosen(shelf, {"a": (2,), "b": (2,)}, [])
        self.check_chosen(shelf, {"a": (1,), "c": (1,)}, [("need", "a", 0), ("shut", "a", 0, "c")])
        self.check_chosen(shelf, {"a": (2,), "b": (1,), "c": (1,)}, [])
        self.check_chosen(shelf, {"b": (2,), "c": (1,)}, [])


class NeedTest(SetsTest):
    def need(self, claim, others, is_met):
        parcels = [parcel_of("m", ONE, needs=[claim])] + others
        self.check(parcels, [] if is_met else [("need", "m", 0)])

    def test_a_name_that_is_not_in(self):
        self.need(("b",) + ANY, [], False)
        self.need(("b",) + ANY, [parcel_of("c", ONE), parcel_of("bb", ONE)], False)
        self.need(("b",) + ANY, [parcel_of("b", ONE)], True)

    def test_least_and_below(self):
        for claim, is_met in (
            (("b", (1, 2), None), True), (("b", (1, 2, 0), None), False), (("b", (1, 3), None), False),
            (("b", (1,), None), True), (("b", (), (1, 2)), False), (("b", (), (1, 2, 0)), True),
            (("b", (1, 2), (1, 3)), True), (("b", (1,), (1, 1)), False), (("b", (1, 2), (1, 2)), False),
        ):
            self.need(claim, [parcel_of("b", (1, 2))], is_met)

    def test_by_an_offer(self):
        offering = [parcel_of("z", ONE, offers=["c", "b"])]
        self.need(("b",) + ANY, offering, True)
        self.need(("c",) + ANY, offering, True)
        self.need(("d",) + ANY, offering, False)
        self.need(("b", (0,), None), offering, False)
        self.need(("b", (), (9,)), offering, False)
        self.need(("b", (0,), (9,)), offering, False)

    def test_by_an_offer_where_the_parcel_of_that_name_does_not_do(self):
        others = [parcel_of("b", (1,)), parcel_of("c", (5,), offers=["b"])]
        self.need(("b",) + ANY, others, True)
        self.need(("b", (2,), None), others, False)

    def test_by_itself(self):
        self.check([parcel_of("a", (2,), needs=[("a",) + ANY, ("a", (2,), (3,))])], [])
        self.check([parcel_of("a", (2,), needs=[("a", (3,), None)])], [("need", "a", 0)])
        self.check([parcel_of("a", (2,), needs=[("b",) + ANY], offers=["b"])], [])
        self.check([parcel_of("a", (2,), needs=[("b", (0,), None)], offers=["b"])], [("need", "a", 0)])

    def test_a_circle_of_needs(self):
        self.check([parcel_of("a", ONE, needs=[("b",) + ANY]), parcel_of("b", ONE, needs=[("a",) + ANY])], [])

    def test_several_counted_from_0(self):
        needs = [("x",) + ANY, ("b",) + ANY, ("y", (1,), None), ("b", (2,), None), ("x",) + ANY]
        self.check(
            [parcel_of("a", ONE, needs=needs), parcel_of("b", ONE, needs=needs[:1])],
            [("need", "a", 0), ("need", "a", 2), ("need", "a", 3), ("need", "a", 4), ("need", "b", 0)],
        )

    def test_eight(self):
        needs = [(name,) + ANY for name in "bcdefghi"]
        self.check([parcel_of("a", ONE, needs=needs)], [("need", "a", number) for number in range(8)])


class ShutTest(SetsTest):
    def test_another_parcel_meets_it(self):
        self.check([parcel_of("a", ONE, shuts=[("b",) + ANY]), parcel_of("b", ONE)], [("shut", "a", 0, "b")])
        self.check([parcel_of("b", ONE, shuts=[("a",) + ANY]), parcel_of("a", ONE)], [("shut", "b", 0, "a")])
        self.check([parcel_of("a", ONE, shuts=[("b",) + ANY]), parcel_of("c", ONE)], [])
        self.check([parcel_of("a", ONE, shuts=[("b",) + ANY])], [])

    def test_least_and_below(self):
        for claim, is_met in (
            (("b", (1, 2), None), True), (("b", (1, 2, 0), None), False), (("b", (), (1, 2)), False),
            (("b", (), (1, 3)), True), (("b", (1,), (2,)), True), (("b", (2,), (3,)), False),
        ):
            parcels = [parcel_of("a", ONE, shuts=[claim]), parcel_of("b", (1, 2))]
            self.check(parcels, [("shut", "a", 0, "b")] if is_met else [])

    def test_not_by_itself(self):
        self.check([parcel_of("a", ONE, shuts=[("a",) + ANY])], [])
        self.check([parcel_of("a", ONE, shuts=[("b",) + ANY], offers=["b"])], [])

    def test_one_for_each_that_meets_it(self):
        mail = [("mail",) + ANY]
        self.check(
            [
                parcel_of("a", ONE, shuts=mail, offers=["mail"]), parcel_of("b", ONE, offers=["mail"]),
                parcel_of("mail", ONE), parcel_of("c", ONE), parcel_of("z", ONE, offers=["x", "mail"]),
            ],
            [("shut", "a", 0, "b"), ("shut", "a", 0, "mail"), ("shut", "a", 0, "z")],
        )

    def test_each_shuts_the_other(self):
        mail = [("mail",) + ANY]
        self.check(
            [parcel_of("a", ONE, shuts=mail, offers=["mail"]), parcel_of("b", ONE, shuts=mail, offers=["mail"])],
            [("shut", "a", 0, "b"), ("shut", "b", 0, "a")],
        )

    def test_not_by_an_offer_where_a_bound_is_told(self):
        for claim in (("mail", (0,), None), ("mail", (), (9,))):
            self.check([parcel_of("a", ONE, shuts=[claim]), parcel_of("b", ONE, offers=["mail"])], [])

    def test_once_where_name_and_offer_both_meet_it(self):
        self.check(
            [parcel_of("a", ONE, shuts=[("b",) + ANY]), parcel_of("b", ONE, offers=["b"])], [("shut", "a", 0, "b")],
        )

    def test_several_counted_from_0(self):
        shuts = [("x",) + ANY, ("c",) + ANY, ("b", (2,), None), ("b",) + ANY, ("c",) + ANY]
        self.check(
            [parcel_of("a", ONE, shuts=shuts), parcel_of("b", ONE, shuts=shuts[1:2]), parcel_of("c", ONE)],
            [("shut", "a", 1, "c"), ("shut", "a", 3, "b"), ("shut", "a", 4, "c"), ("shut", "b", 0, "c")],
        )


class ClashTest(SetsTest):
    def test_name_before_other(self):
        for first, second in (("a", "b"), ("b", "a")):
            self.check(
                [parcel_of(first, ONE, files=[("f", ["1"])]), parcel_of(second, ONE, files=[("f", ["2"])])],
                [("clash", "a", "b", "f")],
            )

    def test_also_where_the_lines_are_the_same(self):
        files = [("f", ["x"])]
        self.check([parcel_of("a", ONE, files=files), parcel_of("b", ONE, files=files)], [("clash", "a", "b", "f")])

    def test_whole_paths_alone(self):
        self.check(
            [
                parcel_of("a", ONE, files=[("a", []), ("c/d", [])]),
                parcel_of("b", ONE, files=[("a/b", []), ("d", [])]),
                parcel_of("c", ONE, files=[("c", []), ("b", []), ("d/c", [])]),
            ],
            [],
        )

    def test_each_two_and_each_path(self):
        self.check(
            [
                parcel_of("c", ONE, files=[("h", []), ("f", []), ("g", [])]),
                parcel_of("a", ONE, files=[("g", []), ("f", []), ("i", [])]),
                parcel_of("b", ONE, files=[("f", []), ("h", [])]),
            ],
            [
                ("clash", "a", "b", "f"), ("clash", "a", "c", "f"), ("clash", "a", "c", "g"),
                ("clash", "b", "c", "f"), ("clash", "b", "c", "h"),
            ],
        )


class SortedTest(SetsTest):
    def test_all_sorts_together(self):
        self.check(
            [
                parcel_of("b", ONE, files=[("z", []), ("f", [])], needs=[("x",) + ANY], shuts=[("c",) + ANY]),
                parcel_of("a", ONE, needs=[("b",) + ANY, ("x",) + ANY], shuts=[("b",) + ANY, ("c",) + ANY]),
                parcel_of("c", ONE, files=[("f", []), ("z", [])], shuts=[("y",) + ANY, ("a",) + ANY]),
            ],
            [
                ("clash", "b", "c", "f"), ("clash", "b", "c", "z"),
                ("need", "a", 1), ("need", "b", 0),
                ("shut", "a", 0, "b"), ("shut", "a", 1, "c"), ("shut", "b", 0, "c"), ("shut", "c", 1, "a"),
            ],
        )

    def test_names_as_texts_are_compared(self):
        needs = [("x",) + ANY]
        self.check(
            [parcel_of(name, ONE, needs=needs) for name in ("b", "ab", "a", "abc", "aa")],
            [("need", name, 0) for name in ("a", "aa", "ab", "abc", "b")],
        )

    def test_every_set_of_a_shelf_against_the_words_of_the_point(self):
        parcels = [
            parcel_of("a", (1,), 0, [("f", [])], [("b", (2,), None)], [("d",) + ANY], ["m"]),
            parcel_of("a", (1, 2), 0, [("g", [])], [("m",) + ANY, ("c", (), (3,))], [("m",) + ANY], []),
            parcel_of("b", (1,), 0, [("f", [])], [], [("a", (2,), None)], ["c", "m"]),
            parcel_of("b", (2,), 0, [], [("d", (1,), None)], [("c", (4,), (5,)), ("a",) + ANY], ["m", "b"]),
            parcel_of("c", (3,), 0, [("g", [])], [("c",) + ANY], [("c",) + ANY], ["m", "d"]),
            parcel_of("c", (4,), 0, [("f", []), ("h", [])], [("m",) + ANY], [], []),
            parcel_of("d", (1,), 0, [("h", []), ("f", [])], [("a",) + ANY], [("m",) + ANY], []),
            parcel_of("d", (2,), 0, [], [("b",) + ANY], [], []),
        ]
        shelf = Shelf(parcels)
        sound = 0
        for chosen in every_set(shelf):
            expected = faults_by_the_words([shelf.parcel(name, chosen[name]) for name in chosen])
            self.check_chosen(parcels, chosen, expected)
            sound = sound + (len(expected) == 0)
        self.assertGreater(sound, 3)


if __name__ == "__main__":
    unittest.main()
