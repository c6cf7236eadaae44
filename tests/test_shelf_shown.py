"""Point 9: the text of a shelf."""

import copy
import itertools
import unittest

from helpers import contents_of, parcel_of
from parcelmend.parcels import Shelf
from parcelmend.parceltexts import shelf_shown


class ShelfShownTest(unittest.TestCase):
    def check(self, parcels, rows):
        self.assertEqual(shelf_shown(Shelf(parcels)), "\n".join(rows))

    def test_without_parcels(self):
        self.assertEqual(shelf_shown(Shelf([])), "")

    def test_a_parcel_with_nothing(self):
        self.check([parcel_of("a", (0,), 0)], ["parcel a 0 0"])

    def test_everything_row_by_row(self):
        parcel = parcel_of(
            "editor", (1, 2, 0), 50,
            [("conf/ed", ["width = 80", "", " two  blanks "]), ("a", []), ("b/c/d/e", ["| file a"])],
            [("libz", (1, 20), (2,)), ("alib", (), None), ("libz", (), (3, 0, 0)), ("libz", (0,), None)],
            [("vi", (), None), ("ed", (5,), (4,))],
            ["text", "edit"],
        )
        self.check([parcel], [
            "parcel editor 1.2.0 50",
            "file conf/ed", "|width = 80", "|", "| two  blanks ",
            "file a",
            "file b/c/d/e", "|| file a",
            "need libz 1.20 2", "need alib - -", "need libz - 3.0.0", "need libz 0 -",
            "shut vi - -", "shut ed 5 4",
            "offer text", "offer edit",
        ])

    def test_each_sort_alone(self):
        self.check([parcel_of("a", (1,), 2, files=[("f", [""])])], ["parcel a 1 2", "file f", "|"])
        self.check([parcel_of("a", (1,), 2, files=[("f", [])])], ["parcel a 1 2", "file f"])
        self.check([parcel_of("a", (1,), 2, needs=[("n", (), None)])], ["parcel a 1 2", "need n - -"])
        self.check([parcel_of("a", (1,), 2, shuts=[("n", (), None)])], ["parcel a 1 2", "shut n - -"])
        self.check([parcel_of("a", (1,), 2, offers=["n"])], ["parcel a 1 2", "offer n"])

    def test_makes_and_numbers_in_figures(self):
        big = 10 ** 9
        claims = [("b", (big, 0, big), (0, 0, 1))]
        self.check([parcel_of("a", (big, big, big), big, needs=claims)], [
            "parcel a 1000000000.1000000000.1000000000 1000000000",
            "need b 1000000000.0.1000000000 0.0.1",
        ])
        self.check([parcel_of("a", (10, 0), 100)], ["parcel a 10.0 100"])

    def test_by_name_and_make_in_whatever_order(self):
        parcels = [
            parcel_of("a", (1, 3), 1), parcel_of("a", (1, 2), 2, [("f", ["x"])]), parcel_of("a", (1, 2, 0), 3),
            parcel_of("b", (10,), 4), parcel_of("b", (9,), 5), parcel_of("ab", (7,), 0, offers=["z"]),
        ]
        rows = [
            "parcel a 1.2 2", "file f", "|x", "parcel a 1.2.0 3", "parcel a 1.3 1",
            "parcel ab 7 0", "offer z", "parcel b 9 5", "parcel b 10 4",
        ]
        for order in itertools.permutations(parcels):
            self.check(list(order), rows)

    def test_nothing_is_changed(self):
        files = [("z", ["2", "1"]), ("a", [])]
        needs = [("y", (1,), None), ("b", (), None)]
        shelf = Shelf([parcel_of("b", (1,), 1, files, needs, needs, ["y", "x"]), parcel_of("a", (2,))])
        before = copy.deepcopy(contents_of(shelf))
        text = shelf_shown(shelf)
        self.assertEqual(contents_of(shelf), before)
        self.assertEqual(shelf_shown(shelf), text)


if __name__ == "__main__":
    unittest.main()
