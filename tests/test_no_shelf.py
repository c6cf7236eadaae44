"""Point 10, with 4, 5, 7 and 8: texts that are refused, and at which row."""

import unittest

from parcelmend.errors import NoShelf
from parcelmend.parceltexts import read_shelf

PARCEL = "parcel a 1 0"
# One row of each sort that is good behind PARCEL, with every word of it as it must be.
GOOD_ROWS = ("parcel b 1.2 3", "file f/g", "need b 1 2.0", "need b - -", "shut b 1.2.3 -", "shut b - 4", "offer c")
STRANGE_SIGNS = (
    "A", "Z", "0", "9", "_", "-", ".", "`", "{", "=", "|", "\t", "\r", "\u00e9", "\u0430", "\u00df", "\x00",
)
NO_NUMBERS = (
    "", "00", "01", "007", "0000000001", "1000000001", "1000000010", "9999999999", "10000000000", "1" * 20,
    "9" * 5000, "-", "-1", "-0", "+1", "1_0", "1e3", "0x1", "a", "1a", "1,0", "\u0661", "\u00b2", "\uff11", "1\t",
    "\r1", "1\u00a0",
)
NO_MAKES = tuple(number for number in NO_NUMBERS if number != "-") + (
    ".", "1.", ".1", "1..2", "1.2.", "1.2.3.", "1.2.3.4", "0.0.0.0", "1.02", "00.1", "1.1000000001", "1.2.1000000001",
    "1.2.a", "1.-", "-.1", "()", "(1,)", "None", "1/2", "1.2\t",
)
NO_NAMES = (
    ("", "abcdefghi", "a" * 100, "a/b", "a b") + STRANGE_SIGNS + tuple("ab" + sign for sign in STRANGE_SIGNS)
    + tuple(sign + "ab" for sign in STRANGE_SIGNS) + tuple("a" + sign + "b" for sign in STRANGE_SIGNS)
)
NO_PATHS = tuple(name for name in NO_NAMES if name != "a/b") + (
    "/", "/a", "a/", "a//b", "//", "a/b/c/d/e", "a/b/c/d/", "/a/b/c/d", "abcdefghi/a", "a/abcdefghi", "a/B", "a/b.own",
    "a\\b", "a/b/c/d e", "=a",
)


class NoShelfTest(unittest.TestCase):
    def refuse_text(self, text, line):
        with self.subTest(text=text[-200:], line=line):
            with self.assertRaises(NoShelf) as caught:
                read_shelf(text)
            self.assertIs(type(caught.exception), NoShelf)
            self.assertIs(type(caught.exception.line), int)
            self.assertEqual(caught.exception.line, line)

    def refuse(self, ahead, row):
        """The rows ahead are good, this one behind them is not, whatever follows it."""
        read_shelf("\n".join(ahead))
        # The text without signs has no rows: a row without signs is one only where another row is there.
        if ahead or row:
            self.refuse_text("\n".join(ahead + [row]), len(ahead))
        self.refuse_text("\n".join(ahead + [row, "parcel z 9 9"]), len(ahead))
        self.refuse_text("\n".join(ahead + [row, "", "no row"]), len(ahead))

    def accept(self, rows):
        read_shelf("\n".join(rows))


class FirstWordTest(NoShelfTest):
    def test_another_first_word(self):
        for word in ("Parcel", "parcels", "parce", "PARCEL", "files", "fil", "File", "needs", "Need", "shuts", "shu",
                     "offers", "Offer", "in", "own", "#", "x", "-", "\\", "/", "I", "l", "\u2223"):
            for rest in ("", " b", " b - -", " b 1 0", " b 1 2"):
                self.refuse([PARCEL], word + rest)
                self.refuse([], word + rest)

    def test_a_row_without_signs(self):
        for ahead in ([], [PARCEL], [PARCEL, "file f"], [PARCEL, "file f", "|x"], [PARCEL, "need b - -"],
                      [PARCEL, "shut b - -"], [PARCEL, "offer b"]):
            self.refuse(ahead, "")

    def test_a_line_feed_behind_the_last_row(self):
        self.refuse_text("\n", 0)
        self.refuse_text("\n\n", 0)
        self.refuse_text("parcel a 1 0\n", 1)
        self.refuse_text("parcel a 1 0\nfile f\n|\n", 3)
        self.refuse_text("parcel a 1 0\noffer b\n", 2)
        self.refuse_text("\nparcel a 1 0", 0)

    def test_other_ends_of_a_row(self):
        for end in ("\r\n", "\r", "\x0b", "\x0c", "\x1c", "\x85", "\u2028", "\u2029"):
            self.refuse_text(PARCEL + end + "offer b", 0)
            self.refuse_text(PARCEL + "\nfile f\n|x" + end + "|y", 2)

    def test_the_first_of_several(self):
        self.refuse_text("\n".join([PARCEL, "offer B", "parcel", ""]), 1)
        self.refuse_text("\n".join(["parcel a 01 0", "parcel a 1"]), 0)


class WordsTest(NoShelfTest):
    def test_the_rows_are_good_as_they_are(self):
        for row in GOOD_ROWS:
            self.accept([PARCEL, row])

    def test_a_word_fewer(self):
        for row in GOOD_ROWS:
            words = row.split(" ")
            for many in range(len(words)):
                self.refuse([PARCEL], " ".join(words[:many]))
            for place in range(len(words)):
                self.refuse([PARCEL], " ".join(words[:place] + words[place + 1:]))

    def test_a_word_more(self):
        for row in GOOD_ROWS:
            words = row.split(" ")
            for place in range(len(words) + 1):
                for word in ("1", "-", "b"):
                    self.refuse([PARCEL], " ".join(words[:place] + [word] + words[place:]))

    def test_a_blank_more(self):
        for row in GOOD_ROWS:
            self.refuse([PARCEL], " " + row)
            self.refuse([PARCEL], row + " ")
            self.refuse([PARCEL], row.replace(" ", "  ", 1))
            self.refuse([PARCEL], "  ".join(row.rsplit(" ", 1)))
            self.refuse([PARCEL], row.replace(" ", "\t", 1))
        self.refuse([PARCEL, "file f"], " |x")
        self.refuse([PARCEL], " ")

    def test_a_bad_first_row(self):
        for row in (" parcel a 1 0", "parcel a 1 0 ", "parcel  a 1 0", "parcel a  1 0", "parcel a 1  0", "parcel a 1",
                    "parcel a 1 0 0", "parcel"):
            self.refuse([], row)

    def test_names(self):
        for name in NO_NAMES:
            self.refuse([], f"parcel {name} 1 0")
            self.refuse([PARCEL], f"parcel {name} 1 0")
            self.refuse([PARCEL], f"need {name} - -")
            self.refuse([PARCEL], f"shut {name} 1 2")
            self.refuse([PARCEL], f"offer {name}")

    def test_every_sign_as_a_name(self):
        for code in range(400):
            sign = chr(code)
            if sign != "\n" and not "a" <= sign <= "z":
                self.refuse([PARCEL], f"offer {sign}")
                self.refuse([PARCEL], f"file {sign}")

    def test_paths(self):
        for path in NO_PATHS:
            self.refuse([PARCEL], f"file {path}")

    def test_makes(self):
        for make in NO_MAKES + ("-",):
            self.refuse([], f"parcel a {make} 0")
            self.refuse([PARCEL], f"parcel b {make} 0")

    def test_ranks(self):
        for rank in NO_NUMBERS + ("1.0", "1.", "1.2.3"):
            self.refuse([], f"parcel a 1 {rank}")
            self.refuse([PARCEL], f"parcel b 1 {rank}")

    def test_least_and_below(self):
        for make in NO_MAKES + ("--", "-1", "*"):
            for sort in ("need", "shut"):
                self.refuse([PARCEL], f"{sort} b {make} -")
                self.refuse([PARCEL], f"{sort} b - {make}")
                self.refuse([PARCEL], f"{sort} b 1 {make}")
                self.refuse([PARCEL], f"{sort} b {make} {make}")


class LinesTest(NoShelfTest):
    def test_too_long(self):
        for sign in ("x", " ", "~", "|"):
            self.accept([PARCEL, "file f", "|" + sign * 60])
            self.refuse([PARCEL, "file f"], "|" + sign * 61)
            self.refuse([PARCEL, "file f", "|"], "|" + sign * 200)

    def test_every_sign_that_a_line_may_not_have(self):
        codes = [37] + list(range(10)) + list(range(11, 32)) + list(range(127, 400))
        codes = codes + [0x2028, 0x2029, 0x3000, 0xff05, 0xff41, 0x10000, 0x1f600]
        for code in codes:
            for line in (chr(code), "x" + chr(code), chr(code) + "x", "x" * 59 + chr(code)):
                self.refuse([PARCEL, "file f"], "|" + line)


class TwiceTest(NoShelfTest):
    def test_a_name_and_make(self):
        self.refuse([PARCEL], "parcel a 1 0")
        self.refuse([PARCEL], "parcel a 1 7")
        self.refuse([PARCEL, "parcel b 1 0", "parcel a 2 0"], "parcel a 1 0")
        self.refuse([PARCEL, "file f", "|x", "parcel b 1 0", "offer c"], "parcel a 1 1")
        self.refuse(["parcel b 1.2.0 0", "parcel b 1.2 0"], "parcel b 1.2.0 0")
        self.accept([PARCEL, "parcel b 1 0", "parcel a 1.0 0", "parcel a 0 0"])

    def test_a_path_of_one_parcel(self):
        self.refuse([PARCEL, "file f"], "file f")
        self.refuse([PARCEL, "file a/b", "|x", "file a", "|y", "file b"], "file a/b")
        self.accept([PARCEL, "file a", "file a/b", "file b/a", "file a/a", "parcel a 2 0", "file a", "file a/b"])
        self.refuse([PARCEL, "file a", "parcel a 2 0", "file a"], "file a")

    def test_an_offer_of_one_parcel(self):
        self.refuse([PARCEL, "offer b"], "offer b")
        self.refuse([PARCEL, "offer b", "offer c", "offer a"], "offer b")
        self.accept([PARCEL, "offer a", "offer b", "parcel a 2 0", "offer a", "offer b"])
        self.refuse([PARCEL, "offer b", "parcel a 2 0", "offer b"], "offer b")

    def test_claims_may_stand_twice(self):
        self.accept([PARCEL, "need b - -", "need b - -", "shut b - -", "shut b - -"])


class OrderTest(NoShelfTest):
    def test_anything_ahead_of_the_first_parcel(self):
        for row in ("file f", "|", "|x", "|parcel a 1 0", "need b - -", "shut b - -", "offer b"):
            self.refuse([], row)

    def test_a_line_not_behind_a_file_or_a_line(self):
        for line in ("|", "|x"):
            self.refuse([PARCEL], line)
            self.refuse([PARCEL, "file f", "|x", "parcel b 1 0"], line)
            for row in ("need b - -", "shut b - -", "offer b"):
                self.refuse([PARCEL, row], line)
                self.refuse([PARCEL, "file f", row], line)
                self.refuse([PARCEL, "file f", "|x", row], line)

    def test_sorts_out_of_their_order(self):
        rows = ["file f", "need b - -", "shut b - -", "offer b"]
        others = ["file g", "need c - -", "shut c - -", "offer c"]
        for late in range(4):
            for early in range(late):
                self.refuse([PARCEL, rows[late]], others[early])
                self.refuse([PARCEL] + rows[:late + 1], others[early])
                self.refuse([PARCEL, "parcel c 1 0", rows[late]], others[early])
        self.refuse([PARCEL, "need b - -"], "file g")
        self.refuse([PARCEL, "file f", "|x", "offer b"], "file g")
        self.refuse([PARCEL, "need b - -", "shut b - -"], "need c - -")

    def test_the_order_begins_anew_with_each_parcel(self):
        for row in ("need b - -", "shut b - -", "offer b"):
            self.accept([PARCEL, row, "parcel a 2 0", "file f", "|x", "need b - -", "shut b - -", "offer b"])


class TooManyTest(NoShelfTest):
    def test_a_ninth_name(self):
        eight = [f"parcel {name} 1 0" for name in "hgfedcba"]
        self.accept(eight + ["parcel a 2 0", "parcel h 0 0"])
        self.refuse(eight, "parcel i 1 0")
        self.refuse(eight + ["parcel a 2 0", "parcel h 0 0"], "parcel aa 1 0")
        every = [f"parcel {name} {make} 0" for make in (4, 3, 2, 1) for name in "abcdefgh"]
        self.accept(every)
        self.refuse(every, "parcel i 1 0")

    def test_a_fifth_make(self):
        four = [f"parcel a {make} 0" for make in ("4", "2", "2.0", "1.9.9")]
        self.refuse(four, "parcel a 3 0")
        self.refuse(four + ["parcel b 3 0"], "parcel a 3 0")
        mixed = [f"parcel {name} {make} 0" for make in (1, 2, 3, 4) for name in "bac"]
        for name in "abc":
            self.refuse(mixed, f"parcel {name} 5 0")
        self.accept(mixed + ["parcel d 5 0"])

    def test_a_ninth_file(self):
        eight = [PARCEL] + [f"file {name}" for name in "abcdefgh"]
        self.refuse(eight, "file i")
        self.refuse(eight + ["|x"], "file i")
        self.accept(eight + ["|x", "parcel b 1 0"] + eight[1:])
        self.refuse(eight + ["parcel b 1 0"] + eight[1:], "file i")

    def test_a_ninth_need_or_shut(self):
        needs = [f"need {name} - -" for name in "abcdefgh"]
        shuts = [f"shut {name} - -" for name in "abcdefgh"]
        self.refuse([PARCEL] + needs, "need i - -")
        self.refuse([PARCEL] + needs, "need a - -")
        self.refuse([PARCEL] + shuts, "shut i - -")
        self.refuse([PARCEL] + needs + shuts, "shut i - -")
        self.refuse([PARCEL] + ["need b - -"] * 8, "need b - -")
        self.refuse([PARCEL] + ["shut b - -"] * 8, "shut b - -")
        self.accept([PARCEL] + needs + shuts + ["parcel b 1 0"] + needs + shuts)

    def test_a_fifth_offer(self):
        four = [f"offer {name}" for name in "dcba"]
        self.refuse([PARCEL] + four, "offer e")
        self.accept([PARCEL] + four + ["parcel b 1 0"] + four)
        self.refuse([PARCEL] + four + ["parcel b 1 0"] + four, "offer e")

    def test_a_21st_line(self):
        twenty = [f"|{number}" for number in range(20)]
        self.refuse([PARCEL, "file f"] + twenty, "|x")
        self.refuse([PARCEL, "file f"] + ["|"] * 20, "|")
        self.accept([PARCEL, "file f"] + twenty + ["file g"] + twenty)
        self.refuse([PARCEL, "file f"] + twenty + ["file g"] + twenty, "|x")


if __name__ == "__main__":
    unittest.main()
