"""Point 10, with 4, 5 and 7: texts that are read to a shelf."""

import itertools
import unittest

from helpers import contents_of, fields_of
from parcelmend.parcels import Shelf
from parcelmend.parceltexts import read_shelf, shelf_shown

BIG = 10 ** 9
GREATEST_MAKE = (BIG, BIG, BIG)


class ReadShelfTest(unittest.TestCase):
    def read(self, rows):
        return contents_of(read_shelf("\n".join(rows)))

    def read_one(self, rows):
        told = self.read(["parcel a 1 0"] + rows)
        self.assertEqual(len(told), 1)
        return told[0]

    def test_text_without_signs(self):
        shelf = read_shelf("")
        self.assertIsInstance(shelf, Shelf)
        self.assertEqual(shelf.names(), [])
        self.assertEqual(shelf_shown(shelf), "")

    def test_a_parcel_with_nothing(self):
        self.assertEqual(self.read(["parcel a 0 0"]), [("a", (0,), 0, [], [], [], [])])

    def test_each_field_as_it_is_written(self):
        told = self.read([
            "parcel editor 1.2.0 50",
            "file conf/ed", "|width = 80", "|", "| two  blanks ",
            "file a",
            "file b/c/d/e", "|| file a", "|need x - -",
            "need libz 1.20 2", "need alib - -", "need libz - 3.0.0", "need libz 0 -", "need libz 0 -",
            "shut vi - -", "shut ed 5 4", "shut vi - -",
            "offer text", "offer edit", "offer editor",
        ])
        self.assertEqual(told, [(
            "editor", (1, 2, 0), 50,
            [
                ("conf/ed", ["width = 80", "", " two  blanks "]),
                ("a", []),
                ("b/c/d/e", ["| file a", "need x - -"]),
            ],
            [
                ("libz", (1, 20), (2,)), ("alib", (), None), ("libz", (), (3, 0, 0)), ("libz", (0,), None),
                ("libz", (0,), None),
            ],
            [("vi", (), None), ("ed", (5,), (4,)), ("vi", (), None)],
            ["text", "edit", "editor"],
        )])

    def test_kinds_of_the_fields(self):
        parcel = read_shelf("parcel a 1 2\nfile f\n|x\nneed b 1 2\nshut c - -\noffer d").parcel("a", (1,))
        self.assertEqual([type(field) for field in fields_of(parcel)], [str, tuple, int, list, list, list, list])
        self.assertEqual([type(part) for part in parcel.files[0]], [str, list])
        self.assertEqual([type(part) for part in parcel.needs[0]], [str, tuple, tuple])
        self.assertEqual([type(part) for part in parcel.shuts[0]], [str, tuple, type(None)])

    def test_every_choice_of_sorts_in_their_order(self):
        sorts = (["file f"], ["file g", "|x"], ["need b - -"], ["shut c 1 -"], ["offer d"])
        for chosen in itertools.product((False, True), repeat=len(sorts)):
            rows = ["parcel a 1 0"]
            for sort, is_in in zip(sorts, chosen):
                if is_in:
                    rows = rows + sort
            with self.subTest(rows=rows):
                text = "\n".join(rows)
                self.assertEqual(shelf_shown(read_shelf(text)), text)

    def test_parcels_in_any_order(self):
        parts = [
            ["parcel a 1.3 1", "offer z"],
            ["parcel a 1.2 2", "file f", "|x"],
            ["parcel a 1.2.0 3", "file f", "offer z"],
            ["parcel b 10 4", "shut a - -"],
            ["parcel b 9 5", "need a - -", "offer a"],
        ]
        expected = [
            ("a", (1, 2), 2, [("f", ["x"])], [], [], []),
            ("a", (1, 2, 0), 3, [("f", [])], [], [], ["z"]),
            ("a", (1, 3), 1, [], [], [], ["z"]),
            ("b", (9,), 5, [], [("a", (), None)], [], ["a"]),
            ("b", (10,), 4, [], [], [("a", (), None)], []),
        ]
        rising = "\n".join(parts[1] + parts[2] + parts[0] + parts[4] + parts[3])
        for order in itertools.permutations(parts):
            rows = [row for part in order for row in part]
            self.assertEqual(self.read(rows), expected)
            self.assertEqual(shelf_shown(read_shelf("\n".join(rows))), rising)

    def test_one_make_of_unlike_names_and_like_numbers_of_other_makes(self):
        told = self.read(["parcel a 1 0", "parcel b 1 0", "parcel a 1.0 0", "parcel a 1.0.0 0", "parcel ab 1 0"])
        self.assertEqual(
            [fields[:2] for fields in told],
            [("a", (1,)), ("a", (1, 0)), ("a", (1, 0, 0)), ("ab", (1,)), ("b", (1,))],
        )

    def test_every_sign_that_a_line_may_have(self):
        signs = [chr(code) for code in range(32, 127) if code != 37]
        for sign in signs:
            for line in (sign, sign + "x", "x" + sign, sign * 60):
                self.assertEqual(self.read_one(["file f", "|" + line])[3], [("f", [line])])

    def test_every_letter_that_a_name_may_have(self):
        for letter in "abcdefghijklmnopqrstuvwxyz":
            for name in (letter, letter * 8, "m" + letter):
                rows = [f"parcel {name} 1 0", f"file {name}", f"need {name} - -", f"shut {name} - -", f"offer {name}"]
                claims = [(name, (), None)]
                self.assertEqual(self.read(rows), [(name, (1,), 0, [(name, [])], claims, claims, [name])])

    def test_paths(self):
        paths = ["a", "a/b", "a/a/a/a", "abcdefgh/ijklmnop/qrstuvwx/yzabcdef", "parcel", "b/a", "ab"]
        rows = [f"file {path}" for path in paths]
        self.assertEqual(self.read_one(rows)[3], [(path, []) for path in paths])

    def test_numbers(self):
        numbers = [0, 1, 9, 10, 100, 101, 999999999, BIG]
        for number in numbers:
            self.assertEqual(self.read([f"parcel a 1 {number}"])[0][2], number)
            self.assertEqual(self.read([f"parcel a {number} 0"])[0][1], (number,))
            self.assertEqual(self.read([f"parcel a 0.{number} 0"])[0][1], (0, number))
            self.assertEqual(self.read([f"parcel a {number}.0.{number} 0"])[0][1], (number, 0, number))
            for sort, place in (("need", 4), ("shut", 5)):
                claim = ("b", (number,), (1, number))
                self.assertEqual(self.read_one([f"{sort} b {number} 1.{number}"])[place], [claim])

    def test_told_shelf_is_the_askers_own(self):
        text = "parcel a 1 0\nfile f\n|x\noffer b"
        read_shelf(text).parcel("a", (1,)).files[0][1].append("y")
        self.assertEqual(shelf_shown(read_shelf(text)), text)


class GreatestShelfTest(unittest.TestCase):
    def test_the_greatest_numbers_of_everything(self):
        names = [letter * 8 for letter in "abcdefgh"]
        makes = [(0, 0, 0), (BIG,), (BIG, BIG), GREATEST_MAKE]
        paths = ["/".join(["zzzzzzzz", name, "yyyyyyyy", "abcdefgh"]) for name in names]
        lines = [(str(number) + "~" * 60)[:60] for number in range(20)]
        claims = [(name, GREATEST_MAKE, GREATEST_MAKE) for name in names]
        shown_make = "1000000000.1000000000.1000000000"
        expected = []
        rows = []
        for name in names:
            for make in makes:
                files = [(path, lines) for path in paths]
                expected.append((name, make, BIG, files, claims, claims, names[:4]))
                rows.append(f"parcel {name} {'.'.join(str(number) for number in make)} 1000000000")
                for path in paths:
                    rows.append(f"file {path}")
                    rows.extend(["|" + line for line in lines])
                rows.extend([f"need {other} {shown_make} {shown_make}" for other in names])
                rows.extend([f"shut {other} {shown_make} {shown_make}" for other in names])
                rows.extend([f"offer {other}" for other in names[:4]])
        text = "\n".join(rows)
        shelf = read_shelf(text)
        self.assertEqual(contents_of(shelf), expected)
        self.assertEqual(shelf_shown(shelf), text)


if __name__ == "__main__":
    unittest.main()
