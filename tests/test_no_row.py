"""Point 38, with 4, 5, 9, 10 and 37: rows that are none, and what is refused behind that."""

import unittest

from parcelmend.desk import Desk
from parcelmend.errors import Fallen, MendError, NoFile, NoFormer, NoRow, NoShelf, NotUp, TooWide

SHELF = "parcel a 1 0\nfile f\n|1\noffer m\nparcel a 2 0\nfile f\n|2\nparcel b 1 0\nfile g\nneed a 2 -"
# One row of each sort, that is answered by the desk below.
GOOD_ROWS = (
    "shelf\n" + SHELF, "wish in:a:-:-", "wish in:b:1:2.0 out:zz", "edit f\n|x", "edit f\n", "forget f", "choose m a",
    "choose m -", "back 1", "allow 3", "allow -", "up", "spoil f\n|x", "spoil f\n", "spoil f.own\n|", "spoil =m\n|x",
    "lose f", "lose f.own", "lose =m", "look", "mend", "files", "show f", "show =m", "stand",
)
STRANGE_SIGNS = (
    "A", "Z", "0", "9", "_", "-", ".", "`", "{", "=", "|", ":", ";", "\t", "\r", "\u00e9", "\u0430", "\u00df", "\x00",
    "\x0b", "\u2028", "\u00a0",
)
NO_NUMBERS = (
    "", "00", "01", "007", "000001", "-1", "-0", "+1", "+0", "1_0", "1e3", "0x1", "a", "1a", "1,0", "1.0", ".", "1.",
    "\u0661", "\u00b2", "\uff11", "1\t", "\r1", "1\u00a0", "--", "None",
)
NO_NAMES = (
    ("", "abcdefghi", "a" * 100, "a/b") + STRANGE_SIGNS + tuple("ab" + sign for sign in STRANGE_SIGNS)
    + tuple(sign + "ab" for sign in STRANGE_SIGNS) + tuple("a" + sign + "b" for sign in STRANGE_SIGNS)
)
NO_SPOTS = (
    "", "abcdefghi", "/", "/a", "a/", "a//b", "//", "a/b/c/d/e", "a/b/c/d/", "/a/b/c/d", "abcdefghi/a", "a/abcdefghi",
    "a/B", "A", "a\\b", "a\tb", "\u00e9", "f0", "f-", "f:g", ".own", "/.own", "f/.own", "f.own.own", "f.own/g",
    "f.own.", "f..own", "f.", "f.ow", "f.Own", "f.OWN", "f.owner", "f.mine", "F.own", "a/b/c/d/e.own", "abcdefghi.own",
    "=", "==a", "=A", "=abcdefghi", "=a/b", "=a.own", "=a=", "a=", "a=b", "= ", "=\u00e9", "=0",
)
# Each is no path either, with what is a spot, but no path.
NO_PATHS = NO_SPOTS + ("=a", "=abcdefgh", "f.own", "a/b.own")
NO_WISHES = (
    "", "in", "out", "a", ":", "in:", "out:", "in:a", "in:a:", "in:a:-", "in:a:-:", "in:a::-", "in::-:-", "in:a:-:-:",
    "in:a:-:-:-", "out:a:", "out:a:-", "out:a:-:-", "out::", ":a:-:-", "In:a:-:-", "IN:a:-:-", "Out:a", "on:a",
    "in:A:-:-", "out:A", "out:-", "in:-:-:-", "in:abcdefghi:-:-", "out:abcdefghi", "out:a/b", "out:=a", "out:a;",
    "out:a,out:b",
    "in:a:--:-", "in:a:-:--", "in:a:():-", "in:a:-:None", "in:a:*:*", "in:a:1:-\t", "in-a:-:-", "in;a;-;-",
)
NO_MAKES = (
    "", "00", "01", "1000000001", "9999999999", "1" * 20, "9" * 5000, "-1", "+1", "1_0", "a", "1a", "\u0661", ".", "1.",
    ".1", "1..2", "1.2.", "1.2.3.4", "0.0.0.0", "1.02", "1.1000000001", "1.-", "1/2", "1,2",
)
NO_LINES = (
    "x", " ", " |x", ">x", "<x", "||x\n", "|x\n", "\n", "\n|x", "|x\n\n|y", "|x\ny", "x\n|y", "|x\n |y", "|" + "x" * 61,
    "|x\n|" + "x" * 61, "|" + "x" * 1000, "|37".replace("37", chr(37)), "|a" + chr(37) + "b", "|x\n|" + chr(37), "|\t",
    "|x\r\n|y", "|x\r", "|\x1f", "|\x7f", "|\u00e9", "|\u2028", "|\x00", "\n".join(["|x"] * 21), "\n".join(["|"] * 21),
    "\n".join(["|x"] * 20) + "\n", "\n".join(["|x"] * 100),
)


class RefusalTest(unittest.TestCase):
    def desk(self):
        desk = Desk()
        for row in ("shelf\n" + SHELF, "wish in:a:-:2", "edit k\n|mine", "spoil f\n|spoilt", "spoil f.own\n"):
            self.assertIn(desk.say(row), ("ok", "best a 1"))
        return desk

    def fallen_desk(self):
        desk = self.desk()
        desk.say("allow 2")
        with self.assertRaises(Fallen):
            desk.say("wish out:a")
        desk.say("allow -")
        return desk

    def state(self, desk):
        files = desk.say("files")
        shown = [desk.say("show " + path) for path in files.split(" ") if files != "none"]
        return (files, shown, desk.say("stand"))

    def refuse(self, desk, row, refusal):
        """Nothing changes, and no write is taken."""
        before = self.state(desk)
        with self.subTest(row=row):
            for many in (0, 2):
                desk.say(f"allow {many}")
                with self.assertRaises(MendError) as caught:
                    desk.say(row)
                self.assertIs(type(caught.exception), refusal)
                self.assertEqual(self.state(desk), before)
                self.check_left(desk, many)
            desk.say("allow -")
        return caught.exception

    def check_left(self, desk, many):
        for turn in range(many):
            desk.say("lose zz")
        with self.assertRaises(Fallen):
            desk.say("lose zz")


class NoRowTest(RefusalTest):
    def setUp(self):
        self.up = self.desk()
        self.fallen = self.fallen_desk()

    def no_row(self, row):
        """Whether the house is up or not."""
        self.refuse(self.up, row, NoRow)
        self.refuse(self.fallen, row, NoRow)

    def test_the_good_ones_are_answered(self):
        for row in GOOD_ROWS:
            self.desk().say(row)

    def test_no_text(self):
        for row in (None, True, False, 0, 5, 1.5, b"up", ["up"], ("up",), {"up": 1}, {"up"}, [], object()):
            self.no_row(row)

    def test_another_first_word(self):
        for row in (
            "", " ", "\n", "zz", "quit", "formers", "put f\n|x", "erase f", "come_up", "down", "wishes out:a",
            "edits f\n|x",
            "u", "upp", "fil", "file f", "shelf:", "in:a:-:-", "out:a", "-", "|x", "f", "ok",
        ):
            self.no_row(row)

    def test_capitals(self):
        for row in GOOD_ROWS:
            first = row.split("\n")[0].split(" ")[0]
            for other in (first.upper(), first.capitalize(), first[:-1] + first[-1].upper()):
                self.no_row(other + row[len(first):])

    def test_a_word_more_or_less(self):
        for row in GOOD_ROWS:
            words, feed, text = row.partition("\n")
            for more in (" a", " f", " -", " 0"):
                self.no_row(words + more + feed + text)
            if " " in words:
                self.no_row(words.split(" ")[0] + feed + text)
        self.no_row("choose m")

    def test_a_blank_more(self):
        for row in GOOD_ROWS:
            words, feed, text = row.partition("\n")
            self.no_row(" " + row)
            self.no_row(words + " " + feed + text)
            self.no_row(words + "  " + feed + text)
            for place in range(len(words)):
                if words[place] == " ":
                    self.no_row(words[:place] + " " + words[place:] + feed + text)

    def test_another_sign_in_the_place_of_a_blank(self):
        for row in GOOD_ROWS:
            words, feed, text = row.partition("\n")
            for sign in ("\t", "\u00a0", "\r", "", "_", "\n", "\x0b"):
                if " " in words:
                    self.no_row(words.replace(" ", sign, 1) + feed + text)

    def test_another_sign_ahead_or_behind(self):
        for row in GOOD_ROWS:
            words, feed, text = row.partition("\n")
            for sign in ("\t", "\r", "\u00a0", "\ufeff", "\x00", ":", "|"):
                self.no_row(sign + row)
                self.no_row(words + sign + feed + text)

    def test_a_line_feed_where_none_may_be(self):
        for row in GOOD_ROWS:
            self.no_row("\n" + row)
            if "\n" not in row:
                for text in ("\n", "\n|x", "\n\n", "\nup", "\n" + SHELF):
                    self.no_row(row + text)

    def test_no_line_feed_where_one_must_be(self):
        for row in ("shelf", "edit f", "spoil f", "spoil f.own", "spoil =m", "edit a/b", "edit f |x", "spoil f|x"):
            self.no_row(row)
        for sign in ("\r", "\x0b", "\x0c", "\x85", "\u2028"):
            self.no_row("edit f" + sign + "|x")
            self.no_row("shelf" + sign + SHELF)

    def test_no_path(self):
        for path in NO_PATHS:
            self.no_row("edit " + path + "\n|x")
            self.no_row("edit " + path + "\n")
            self.no_row("forget " + path)

    def test_no_spot(self):
        for spot in NO_SPOTS:
            self.no_row("spoil " + spot + "\n|x")
            self.no_row("spoil " + spot + "\n")
            self.no_row("lose " + spot)
            self.no_row("show " + spot)

    def test_no_name(self):
        for name in NO_NAMES:
            self.no_row("choose " + name + " a")
            self.no_row("choose " + name + " -")
            if name != "-":
                self.no_row("choose m " + name)
            self.no_row("wish out:" + name)
            self.no_row("wish in:" + name + ":-:-")

    def test_no_number(self):
        for number in NO_NUMBERS + ("1000000", "0000000", "1234567", "1" * 20, "9" * 5000, "1000000000"):
            self.no_row("back " + number)
            self.no_row("allow " + number)
        self.no_row("back -")

    def test_numbers_of_one_to_six_figures(self):
        for number in ("0", "9", "10", "100000", "999999"):
            self.assertEqual(self.desk().say("allow " + number), "ok")
        for number in ("3", "10", "99999", "100000", "999999"):
            self.refuse(self.desk(), "back " + number, NoFormer)
        for number in ("0", "1", "2"):
            self.assertEqual(self.desk().say("back " + number), "ok")

    def test_no_wish(self):
        for word in NO_WISHES:
            self.no_row("wish " + word)
            self.no_row("wish out:a " + word)
            self.no_row("wish " + word + " out:a")
        for make in NO_MAKES:
            self.no_row("wish in:a:" + make + ":-")
            self.no_row("wish in:a:-:" + make)
            self.no_row("wish in:a:1:2 in:a:1:" + make)

    def test_none_or_too_many_wishes(self):
        self.no_row("wish")
        self.no_row("wish ")
        for many in (10, 11, 12, 50):
            for word in ("out:zz", "in:a:-:-", "in:a:1.2.3:2"):
                self.no_row("wish " + " ".join([word] * many))

    def test_other_texts_than_lines(self):
        for text in NO_LINES:
            for first in ("edit f", "edit a/b/c/d", "spoil f", "spoil f.own", "spoil =m"):
                self.no_row(first + "\n" + text)


class BehindThatTest(RefusalTest):
    def test_no_shelf_with_its_row(self):
        for text, line in (
            ("zz", 0), ("\n", 0), ("parcel a 1 0\n", 1), ("|x", 0), ("parcel a 1 0\nneed b - 2\nfile f", 2),
            (SHELF + "\nparcel a 2 0", 10), (SHELF + "\n|x", 10), ("parcel a 1 0\nfile f\n|" + "x" * 61, 2),
            ("parcel a 1 0\n|x", 1), ("parcel A 1 0", 0), (" ", 0), ("shelf\n", 0),
            ("parcel a 1 0\nfile f" + "\n|x" * 21, 22), (SHELF.replace("1", "01", 1), 0), (SHELF + "\n" + chr(37), 10),
        ):
            for desk in (self.desk(), self.fallen_desk()):
                refusal = self.refuse(desk, "shelf\n" + text, NoShelf)
                self.assertEqual(refusal.line, line)

    def test_no_shelf_leaves_the_house(self):
        desk = self.desk()
        self.refuse(desk, "shelf\nzz", NoShelf)
        self.assertEqual(desk.say("wish in:b:-:-"), "best a 2 b 1")
        self.assertEqual(desk.say("back 1"), "ok")
        desk = self.fallen_desk()
        self.refuse(desk, "shelf\nzz", NoShelf)
        self.assertEqual(desk.say("up"), "came")

    def test_no_file(self):
        for desk in (self.desk(), self.fallen_desk(), Desk()):
            for spot in ("zz", "g", "f/f", "k.own", "=k", "=a", "a/b/c/d.own"):
                self.refuse(desk, "show " + spot, NoFile)
        self.refuse(Desk(), "show f", NoFile)

    def test_no_former(self):
        for number in ("3", "4", "999999"):
            self.refuse(self.desk(), "back " + number, NoFormer)
        self.refuse(Desk(), "back 1", NoFormer)

    def test_not_up_ahead_of_the_house_s_other_refusals(self):
        for row in (
            "wish in:a:-:-", "wish in:zz:-:-", "edit f\n|x", "edit f\n", "forget f", "choose m a", "choose m -",
            "back 0", "back 1", "back 99", "look", "mend",
        ):
            self.refuse(self.fallen_desk(), row, NotUp)

    def test_too_wide(self):
        text = "\n".join(f"parcel {name} {make} 0" for name in "abcdef" for make in (1, 2))
        desk = Desk()
        desk.say("shelf\n" + text)
        for row in ("wish in:a:-:-", "wish out:zz", "wish in:zz:-:-"):
            self.refuse(desk, row, TooWide)
        self.refuse(desk, "wish in:zz:-", NoRow)
        desk.say("allow 1")
        with self.assertRaises(Fallen):
            desk.say("edit f\n|x")
        self.refuse(desk, "wish in:a:-:-", NotUp)

    def test_fallen_leaves_what_was_written_ahead(self):
        for many, files, stand in (
            (0, "=m f f.own k", "in a 1\nown k\n>mine"), (1, "=m f f.own k", "in a 2\nin b 1\nown k\n>mine"),
            (2, "f f.own k", "in a 2\nin b 1\nown k\n>mine"), (4, "f k", "in a 2\nin b 1\nown k\n>mine"),
            (6, "f g k", "in a 2\nin b 1\nown k\n>mine"), (7, "f g k", "in a 2\nin b 1\nown k\n>mine"),
        ):
            desk = self.desk()
            desk.say(f"allow {many}")
            with self.assertRaises(MendError) as caught:
                desk.say("wish in:b:-:-")
            self.assertIs(type(caught.exception), Fallen)
            self.assertEqual((desk.say("files"), desk.say("stand")), (files, stand))
        desk.say("allow 1")
        self.assertEqual((desk.say("up"), desk.say("look")), ("came", "none"))

    def test_fallen_of_the_disk(self):
        desk = self.desk()
        desk.say("allow 0")
        for row in ("spoil f\n|x", "lose f", "lose zz", "edit f\n|x", "forget k", "choose m b", "back 0", "mend"):
            with self.assertRaises(MendError) as caught:
                desk.say(row)
            self.assertIs(type(caught.exception), Fallen)
        self.assertEqual(desk.say("files"), "=m f f.own k")


if __name__ == "__main__":
    unittest.main()
