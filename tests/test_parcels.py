"""Points 5, 6, 7 and 8, with 2: claims, parcels and shelves."""

import copy
import itertools
import unittest

from helpers import contents_of, fields_of, parcel_of
from parcelmend.errors import NoParcel
from parcelmend.parcels import Parcel, Shelf, does_meet

# Rising, as point 5 puts makes in order.
MAKES = [
    (0,), (0, 0), (0, 0, 0), (0, 0, 1), (0, 1), (1,), (1, 2), (1, 2, 0), (1, 3), (1, 10), (2,), (9, 9, 9), (10,),
    (10 ** 9,), (10 ** 9, 10 ** 9, 10 ** 9),
]


class DoesMeetTest(unittest.TestCase):
    def check(self, expected, claim, parcel):
        with self.subTest(claim=claim, parcel=fields_of(parcel)):
            self.assertIs(does_meet(claim, parcel), expected)
            self.assertIs(does_meet(claim, parcel), expected)

    def test_by_name_alone(self):
        for make in MAKES:
            self.check(True, ("a", (), None), parcel_of("a", make))

    def test_every_make_against_every_least(self):
        for place, make in enumerate(MAKES):
            for least_place, least in enumerate(MAKES):
                self.check(place >= least_place, ("a", least, None), parcel_of("a", make))

    def test_every_make_against_every_below(self):
        for place, make in enumerate(MAKES):
            for below_place, below in enumerate(MAKES):
                self.check(place < below_place, ("a", (), below), parcel_of("a", make))

    def test_least_and_below_together(self):
        makes = MAKES[5:10]
        for make, least, below in itertools.product(makes, makes, makes):
            expected = makes.index(least) <= makes.index(make) < makes.index(below)
            self.check(expected, ("a", least, below), parcel_of("a", make))

    def test_the_edges_told(self):
        self.check(True, ("a", (1, 2), None), parcel_of("a", (1, 2)))
        self.check(True, ("a", (1, 2), None), parcel_of("a", (1, 2, 0)))
        self.check(False, ("a", (1, 2, 0), None), parcel_of("a", (1, 2)))
        self.check(False, ("a", (), (1, 2)), parcel_of("a", (1, 2)))
        self.check(True, ("a", (), (1, 2, 0)), parcel_of("a", (1, 2)))
        self.check(True, ("a", (1, 2), (1, 3)), parcel_of("a", (1, 2, 0)))
        self.check(False, ("a", (1, 2), (1, 2)), parcel_of("a", (1, 2)))
        self.check(False, ("a", (2,), (1,)), parcel_of("a", (1, 5)))

    def test_a_name_that_differs_in_one_sign(self):
        for name in ("b", "aa", "ab", "ba", "abd", "bbc", "abcd", "zabc"):
            self.check(False, (name, (), None), parcel_of("abc", (1,)))
            self.check(False, (name, (1,), None), parcel_of("abc", (1,)))
            self.check(False, (name, (), (2,)), parcel_of("abc", (1,)))
            self.check(False, (name, (), None), parcel_of("other", (1,), offers=["abc"]))

    def test_by_an_offer(self):
        parcel = parcel_of("a", (1, 2), offers=["b", "c"])
        self.check(True, ("b", (), None), parcel)
        self.check(True, ("c", (), None), parcel)
        self.check(False, ("d", (), None), parcel)
        self.check(False, ("bc", (), None), parcel)

    def test_not_by_an_offer_where_a_bound_is_told(self):
        parcel = parcel_of("a", (1, 2), offers=["b"])
        self.check(False, ("b", (0,), None), parcel)
        self.check(False, ("b", (1, 2), None), parcel)
        self.check(False, ("b", (), (2,)), parcel)
        self.check(False, ("b", (1,), (2,)), parcel)

    def test_offer_of_its_own_name(self):
        parcel = parcel_of("a", (1, 2), offers=["a"])
        self.check(True, ("a", (), None), parcel)
        self.check(True, ("a", (1,), (2,)), parcel)
        self.check(False, ("a", (2,), None), parcel)
        self.check(False, ("a", (), (1, 2)), parcel)

    def test_needs_shuts_and_files_count_for_nothing(self):
        claims = [("b", (), None)]
        parcel = parcel_of("a", (1,), files=[("b", ["b"])], needs=claims, shuts=claims)
        self.check(False, ("b", (), None), parcel)

    def test_nothing_is_changed(self):
        parcel = parcel_of("a", (1,), 3, [("f", ["x"])], [("b", (), None)], [("c", (), None)], ["z", "d"])
        before = copy.deepcopy(fields_of(parcel))
        does_meet(("d", (), None), parcel)
        does_meet(("a", (1,), (2,)), parcel)
        self.assertEqual(fields_of(parcel), before)


class ParcelTest(unittest.TestCase):
    def parts(self):
        files = [("z/b", ["2", "", "1"]), ("a", [])]
        needs = [("y", (2, 1), (3,)), ("x", (), None), ("x", (), None)]
        shuts = [("w", (), (1, 0, 0)), ("v", (1,), None)]
        return files, needs, shuts, ["o", "n"]

    def test_fields_are_as_handed_in(self):
        files, needs, shuts, offers = self.parts()
        parcel = Parcel("abc", (1, 2, 0), 10 ** 9, files, needs, shuts, offers)
        self.assertEqual(fields_of(parcel), ("abc", (1, 2, 0), 10 ** 9) + self.parts())
        self.assertEqual((files, needs, shuts, offers), self.parts())

    def test_fields_of_a_parcel_with_nothing(self):
        parcel = Parcel("a", (0,), 0, [], [], [], [])
        self.assertEqual(fields_of(parcel), ("a", (0,), 0, [], [], [], []))

    def test_fields_by_the_names_of_the_arguments(self):
        files, needs, shuts, offers = self.parts()
        parcel = Parcel(
            name="abc", make=(1,), rank=7, files=files, needs=needs, shuts=shuts, offers=offers,
        )
        self.assertEqual(fields_of(parcel), ("abc", (1,), 7) + self.parts())

    def test_lists_changed_behind_change_nothing(self):
        files, needs, shuts, offers = self.parts()
        parcel = Parcel("abc", (1,), 7, files, needs, shuts, offers)
        files[0][1].append("more")
        files[1][1].append("more")
        files.append(("c", []))
        needs.reverse()
        shuts.clear()
        offers[0] = "m"
        self.assertEqual(fields_of(parcel), ("abc", (1,), 7) + self.parts())

    def test_lists_changed_behind_change_no_answer(self):
        offers = ["b"]
        parcel = Parcel("a", (1,), 0, [], [], [], offers)
        offers[0] = "c"
        self.assertIs(does_meet(("b", (), None), parcel), True)
        self.assertIs(does_meet(("c", (), None), parcel), False)

    def test_two_parcels_of_one_list_are_apart(self):
        shared = [("x", (), None)]
        parcel = Parcel("a", (1,), 0, [], shared, shared, [])
        self.assertIsNot(parcel.needs, parcel.shuts)
        self.assertIsNot(parcel.needs, shared)


class ShelfTest(unittest.TestCase):
    def parcels(self):
        return [
            parcel_of("b", (10,), 1, [("f", ["b10"])]),
            parcel_of("a", (1, 3), 2, [("f", ["a13"])]),
            parcel_of("c", (0,), 3, [("f", ["c0"])], offers=["d"]),
            parcel_of("a", (1, 2, 0), 4, [("f", ["a120"])]),
            parcel_of("ab", (5,), 5, [("f", ["ab5"])]),
            parcel_of("b", (9,), 6, [("f", ["b9"])]),
            parcel_of("a", (1, 2), 7, [("f", ["a12"])]),
        ]

    def check_shelf(self, shelf):
        self.assertEqual(shelf.names(), ["a", "ab", "b", "c"])
        self.assertEqual(shelf.makes_of("a"), [(1, 2), (1, 2, 0), (1, 3)])
        self.assertEqual(shelf.makes_of("ab"), [(5,)])
        self.assertEqual(shelf.makes_of("b"), [(9,), (10,)])
        self.assertEqual(shelf.makes_of("c"), [(0,)])
        for parcel in self.parcels():
            self.assertEqual(fields_of(shelf.parcel(parcel.name, parcel.make)), fields_of(parcel))

    def refuse(self, shelf, name, make):
        with self.subTest(name=name, make=make):
            with self.assertRaises(NoParcel) as caught:
                shelf.parcel(name, make)
            self.assertIs(type(caught.exception), NoParcel)

    def test_names_makes_and_parcels_in_any_order(self):
        parcels = self.parcels()
        for turn in range(len(parcels)):
            self.check_shelf(Shelf(parcels[turn:] + parcels[:turn]))
            self.check_shelf(Shelf(parcels[:turn][::-1] + parcels[turn:]))

    def test_every_order_of_three(self):
        parcels = [parcel_of("b", (1,)), parcel_of("a", (2,)), parcel_of("a", (1, 9))]
        for order in itertools.permutations(parcels):
            shelf = Shelf(list(order))
            self.assertEqual(shelf.names(), ["a", "b"])
            self.assertEqual(shelf.makes_of("a"), [(1, 9), (2,)])

    def test_kinds_of_what_is_told(self):
        shelf = Shelf(self.parcels())
        self.assertIs(type(shelf.names()), list)
        self.assertIs(type(shelf.makes_of("a")), list)
        self.assertIs(type(shelf.makes_of("a")[0]), tuple)
        self.assertIsInstance(shelf.parcel("a", (1, 2)), Parcel)

    def test_makes_of_a_name_that_no_parcel_has(self):
        shelf = Shelf(self.parcels())
        # d is offered, which makes no parcel of it.
        for name in ("d", "aa", "abc", "f", "z"):
            self.assertEqual(shelf.makes_of(name), [])
        self.assertEqual(shelf.names(), ["a", "ab", "b", "c"])

    def test_no_parcel_of_that_make(self):
        shelf = Shelf(self.parcels())
        for make in ((1,), (1, 2, 1), (1, 3, 0), (5,), (0,), (1, 2, 0, 0)):
            self.refuse(shelf, "a", make)
        self.refuse(shelf, "c", (0, 0))

    def test_no_parcel_of_that_name(self):
        shelf = Shelf(self.parcels())
        for name in ("d", "aa", "abc", "z"):
            for make in ((0,), (1, 2), (5,)):
                self.refuse(shelf, name, make)

    def test_shelf_without_parcels(self):
        shelf = Shelf([])
        self.assertEqual(shelf.names(), [])
        self.assertEqual(shelf.makes_of("a"), [])
        self.refuse(shelf, "a", (1,))

    def test_the_list_handed_in_is_not_changed(self):
        parcels = self.parcels()
        before = list(parcels)
        contents_of(Shelf(parcels))
        self.assertEqual([id(parcel) for parcel in parcels], [id(parcel) for parcel in before])

    def test_the_list_handed_in_changed_behind(self):
        parcels = self.parcels()
        shelf = Shelf(parcels)
        parcels.append(parcel_of("new", (1,)))
        parcels[0] = parcel_of("a", (7,))
        self.check_shelf(shelf)
        parcels.clear()
        self.check_shelf(shelf)
        self.refuse(shelf, "new", (1,))
        self.refuse(shelf, "a", (7,))

    def test_lists_told_changed_behind(self):
        shelf = Shelf(self.parcels())
        shelf.names().clear()
        shelf.makes_of("a").append((9,))
        shelf.makes_of("b").clear()
        shelf.makes_of("none").append((1,))
        names = shelf.names()
        names.append("none")
        self.check_shelf(shelf)
        self.assertEqual(shelf.makes_of("none"), [])
        self.refuse(shelf, "a", (9,))
        self.refuse(shelf, "none", (1,))

    def test_two_shelves_are_apart(self):
        first = Shelf(self.parcels())
        second = Shelf([parcel_of("z", (1,))])
        self.check_shelf(first)
        self.assertEqual(second.names(), ["z"])

    def test_the_greatest_shelf(self):
        names = ["h", "g", "f", "e", "d", "c", "b", "a"]
        makes = [(10 ** 9,), (2,), (1, 10 ** 9), (0,)]
        shelf = Shelf([parcel_of(name, make) for name in names for make in makes])
        self.assertEqual(shelf.names(), names[::-1])
        for name in names:
            self.assertEqual(shelf.makes_of(name), makes[::-1])


if __name__ == "__main__":
    unittest.main()
