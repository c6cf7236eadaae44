"""Point 19, with 4 and 5: texts that are no stand's."""

import itertools
import unittest

from helpers import NO_NAMES, NO_PATHS
from parcelmend.errors import NoStand
from parcelmend.standtexts import read_stand

# One row of each sort with words, good by itself.
GOOD_ROWS = ("in a 1.2", "choose b c", "own f/g")
NO_NUMBERS = (
    "", "00", "01", "007", "0000000001", "1000000001", "9999999999", "10000000000", "1" * 20, "9" * 5000, "-", "-1",
    "-0", "+1", "1_0", "1e3", "0x1", "a", "1a", "1,0", "\u0661", "\u00b2", "\uff11", "1\t", "\r1", "1\u00a0",
)
NO_MAKES = NO_NUMBERS + (
    ".", "1.", ".1", "1..2", "1.2.", "1.2.3.", "1.2.3.4", "0.0.0.0", "1.02", "00.1", "1.1000000001", "1.2.1000000001",
    "1.2.a", "1.-", "()", "(1,)", "None", "1/2", "1.2\t",
)


class NoStandTest(unittest.TestCase):
    def refuse_text(self, text):
        with self.subTest(text=text[-200:]):
            with self.assertRaises(NoStand) as caught:
                read_stand(text)
            self.assertIs(type(caught.exception), NoStand)

    def refuse(self, *rows):
        self.refuse_text("\n".join(rows))

    def accept(self, *rows):
        read_stand("\n".join(rows))

    def refuse_row(self, row):
        """Refused alone, ahead of others, and behind others."""
        if row != "":
            self.refuse(row)
        self.refuse(row, "in z 1")
        self.refuse(row, "own z")
        self.refuse("in a 1", row)
        self.refuse("choose a a", row)
        self.refuse("own a", row)
        self.refuse("own a", "<x", ">y", row)


class OrderTest(NoStandTest):
    def test_sorts_exchanged(self):
        rows = ["in a 1", "choose b c", "own f"]
        for many in (2, 3):
            for picked in itertools.combinations(rows, many):
                for order in itertools.permutations(picked):
                    if order == picked:
                        self.accept(*order)
                    else:
                        self.refuse(*order)

    def test_a_sort_that_comes_again(self):
        self.accept("in a 1", "in b 1", "choose a b", "choose b c", "own f", "own g")
        self.refuse("in a 1", "choose b c", "in b 1")
        self.refuse("in a 1", "own f", "in b 1")
        self.refuse("in a 1", "own f", "<x", ">y", "in b 1")
        self.refuse("choose a b", "own f", "choose b c")
        self.refuse("in a 1", "choose a b", "own f", ">x", "choose b c")

    def test_names_not_rising(self):
        for ahead, behind in (("in ", " 1"), ("choose ", " x"), ("own ", "")):
            for names in (("a", "b"), ("a", "aa"), ("ab", "b"), ("aa", "ab"), ("a", "z")):
                rows = [ahead + name + behind for name in names]
                self.accept(*rows)
                self.refuse(*reversed(rows))
                self.refuse(rows[0], rows[1], rows[0])
                self.refuse(rows[1], rows[1])
            rising = [ahead + name + behind for name in "abc"]
            self.accept(*rising)
            for rows in itertools.permutations(rising):
                if list(rows) != rising:
                    self.refuse(*rows)

    def test_paths_not_rising(self):
        self.accept("own a/b", "own aa")
        self.refuse("own aa", "own a/b")
        self.refuse("own a/b", "own a")
        self.refuse("own b", "<x", ">y", "own a", "<x", ">y")

    def test_told_twice(self):
        self.refuse("in a 1", "in a 1")
        self.refuse("in a 1", "in a 2")
        self.refuse("in a 2", "in a 1")
        self.refuse("in a 1", "in b 1", "in b 2")
        self.refuse("choose a b", "choose a b")
        self.refuse("choose a b", "choose a c")
        self.refuse("own f", "own f")
        self.refuse("own f", "<x", "own f", "<x")
        self.refuse("own f", "<x", "own f", ">y")
        self.refuse("own f", ">x", "own f", ">y")

    def test_one_name_of_each_sort_is_no_second_time(self):
        self.accept("in a 1", "choose a a", "own a")


class FirstWordTest(NoStandTest):
    def test_another_first_word(self):
        for word in ("In", "IN", "i", "inn", "out", "Choose", "chooses", "choos", "choice", "Own", "owns", "ow",
                     "parcel", "file", "#", "-", "|", "a", "{", "=", "\u2039", "\uff1c", "\u00bb"):
            for rest in ("", " a", " a 1", " a b", "x"):
                self.refuse_row(word + rest)

    def test_a_row_without_signs(self):
        self.refuse_row("")
        self.refuse("", "")
        self.refuse("in a 1", "", "in b 1")
        self.refuse("own f", "", "<x")
        self.refuse("own f", "<x", "", ">y")

    def test_a_line_feed_behind_the_last_row(self):
        for text in ("", "in a 1", "choose a b", "own f", "own f\n<", "own f\n>", "own f\n<x\n>y"):
            self.accept(text)
            self.refuse_text(text + "\n")
            self.refuse_text("\n" + text)
            self.refuse_text(text + "\n\n")

    def test_other_ends_of_a_row(self):
        for end in ("\r\n", "\r", "\x0b", "\x0c", "\x1c", "\x85", "\u2028", "\u2029"):
            self.refuse_text("in a 1" + end + "in b 1")
            self.refuse_text("own a" + end + "own b")
            self.refuse_text("own f\n<x" + end + "<y")
            self.refuse_text("own f\n>x" + end + ">y")
            self.refuse_text("in a 1" + end)


class WordsTest(NoStandTest):
    def test_the_rows_are_good_as_they_are(self):
        for row in GOOD_ROWS:
            self.accept(row)

    def test_a_word_fewer(self):
        for row in GOOD_ROWS:
            words = row.split(" ")
            for place in range(len(words)):
                self.refuse_row(" ".join(words[:place] + words[place + 1:]))
                self.refuse_row(" ".join(words[:place]))

    def test_a_word_more(self):
        for row in GOOD_ROWS:
            words = row.split(" ")
            for place in range(len(words) + 1):
                for word in ("1", "-", "b", "own", "in"):
                    self.refuse_row(" ".join(words[:place] + [word] + words[place:]))

    def test_a_blank_more(self):
        for row in GOOD_ROWS:
            self.refuse_row(" " + row)
            self.refuse_row(row + " ")
            self.refuse_row(row.replace(" ", "  ", 1))
            self.refuse_row("  ".join(row.rsplit(" ", 1)))
            self.refuse_row(row.replace(" ", "\t", 1))
        self.refuse("own f", " <x")
        self.refuse("own f", " >x")
        self.refuse_row(" ")

    def test_names(self):
        for name in NO_NAMES:
            self.refuse_row(f"in {name} 1")
            self.refuse_row(f"choose {name} a")
            self.refuse_row(f"choose a {name}")

    def test_every_sign_as_a_name(self):
        for code in range(400):
            sign = chr(code)
            if sign != "\n" and not "a" <= sign <= "z":
                self.refuse(f"in {sign} 1")
                self.refuse(f"choose {sign} a")
                self.refuse(f"choose a {sign}")
                self.refuse(f"own {sign}")

    def test_makes(self):
        for make in NO_MAKES:
            self.refuse_row(f"in a {make}")

    def test_paths(self):
        for path in NO_PATHS:
            self.refuse_row(f"own {path}")


class LinesTest(NoStandTest):
    def test_a_line_with_no_mark_ahead(self):
        self.refuse("own f", "x")
        self.refuse("own f", "|x")
        self.refuse("own f", "<x", "y")
        self.refuse("own f", "<x", ">y", "z")
        self.refuse("own f", "<x", " ")

    def test_a_line_not_behind_own(self):
        for line in ("<", ">", "<x", ">x"):
            self.refuse(line)
            self.refuse(line, "own f")
            self.refuse("in a 1", line)
            self.refuse("in a 1", line, "own f")
            self.refuse("choose a b", line)
            self.refuse("choose a b", line, "own f")
            self.refuse("own f", "in a 1", line)
            self.refuse("in a 1", "own f", "choose a b", line)

    def test_base_behind_mine(self):
        self.refuse("own f", ">y", "<x")
        self.refuse("own f", ">", "<")
        self.refuse("own f", "<x", ">y", "<x")
        self.refuse("own f", "<x", ">x", "<x", ">x")
        self.refuse("own e", "<x", "own f", ">y", "<x")
        self.accept("own e", ">y", "own f", "<x")

    def test_too_long(self):
        for mark in "<>":
            for sign in ("x", " ", "~", "<", ">"):
                self.accept("own f", mark + sign * 60)
                self.refuse("own f", mark + sign * 61)
                self.refuse("own f", mark, mark + sign * 61)
                self.refuse("own f", mark + sign * 200, "own g")

    def test_every_sign_that_a_line_may_not_have(self):
        codes = [37] + list(range(10)) + list(range(11, 32)) + list(range(127, 400))
        codes = codes + [0x2028, 0x2029, 0x3000, 0xff05, 0xff41, 0x10000, 0x1f600]
        for code in codes:
            for line in (chr(code), "x" + chr(code), chr(code) + "x", "x" * 59 + chr(code)):
                self.refuse("own f", "<" + line)
                self.refuse("own f", ">" + line)

    def test_a_21st_line(self):
        twenty = [str(number) for number in range(20)]
        base = ["<" + line for line in twenty]
        mine = [">" + line for line in twenty]
        self.accept("own f", *base, *mine)
        self.refuse("own f", *base, "<x")
        self.refuse("own f", *base, "<x", *mine)
        self.refuse("own f", *mine, ">x")
        self.refuse("own f", *base, *mine, ">x")
        self.refuse("own f", *["<"] * 21)
        self.refuse("own f", *[">"] * 21)
        self.accept("own f", *base, *mine, "own g", *base, *mine)
        self.refuse("own f", *base, *mine, "own g", *base, *mine, ">x")


class WholeTest(NoStandTest):
    def test_whatever_rows_are_doubled_exchanged_or_taken_out(self):
        rows = ["in a 1", "in b 1.2", "choose c a", "choose d b", "own f", "<1", ">2", "own g", "<3", ">4"]
        words = [place for place in range(len(rows)) if rows[place][0] not in "<>"]
        self.accept(*rows)
        for place in words:
            self.refuse(*rows[:place + 1], *rows[place:])
            for other in range(len(rows)):
                if other != place:
                    exchanged = list(rows)
                    exchanged[place] = rows[other]
                    exchanged[other] = rows[place]
                    self.refuse(*exchanged)
        self.refuse(*rows[:4], *rows[5:])
        self.refuse(*rows[:7], *rows[8:])


if __name__ == "__main__":
    unittest.main()
