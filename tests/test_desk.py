"""Point 37, with 2, 9, 10, 18, 19 and 26: the rows that a desk is told, and its answers."""

import unittest

from helpers import DeedChance, parts_of, text_by_the_words
from parcelmend.desk import Desk
from parcelmend.disks import Disk
from parcelmend.errors import Fallen, MendError, NoFile, NoFormer, NotUp
from parcelmend.houses import House
from parcelmend.parcels import Shelf
from parcelmend.parceltexts import shelf_shown
from parcelmend.wishes import Best

SHELF = """parcel ed 1.2.0 5
file conf/ed
|w = 1
|end
file empty
need lib 1 2
offer text
parcel ed 2 5
file conf/ed
|w = 2
|end
need lib 2 -
offer text
parcel lib 1.4 0
file lib
|1.4
parcel lib 2 0
file lib
|2
parcel vi 0.9 1
file vi
|
shut ed 2 -
offer text
offer mail"""


class DeskTest(unittest.TestCase):
    def talk(self, desk, *rows):
        """Rows and their answers, one behind the other."""
        for number in range(0, len(rows), 2):
            with self.subTest(number=number, row=rows[number]):
                told = desk.say(rows[number])
                self.assertIs(type(told), str)
                self.assertEqual(told, rows[number + 1])

    def refuse(self, desk, row, refusal):
        with self.assertRaises(MendError) as caught:
            desk.say(row)
        self.assertIs(type(caught.exception), refusal)

    def desk(self, *rows):
        """A desk over the shelf above that was told these rows."""
        desk = Desk()
        for row in ("shelf\n" + SHELF,) + rows:
            desk.say(row)
        return desk


class FirstTest(DeskTest):
    def test_the_shelf_without_parcels(self):
        self.talk(
            Desk(), "files", "none", "stand", "", "look", "none", "mend", "none", "up", "quiet", "wish out:a", "best",
            "wish in:a:-:-", "unmet", "back 0", "ok", "forget f", "ok", "choose m -", "ok", "files", "none",
            "stand", "",
        )

    def test_its_disk_takes_any_number_of_writes(self):
        desk = Desk()
        for number in range(30):
            self.talk(desk, f"edit f\n|{number}", "ok", "show f", f"|{number}")
        self.talk(desk, "back 3", "ok", "show f", "|2", "back 0", "ok", "files", "none")

    def test_desks_are_apart(self):
        first = Desk()
        second = Desk()
        self.talk(first, "edit f\n|x", "ok", "allow 0", "ok", "stand", "own f\n>x")
        self.talk(second, "files", "none", "stand", "", "edit g\n|y", "ok", "files", "g")
        self.talk(first, "files", "f")
        self.talk(second, "shelf\n" + SHELF, "ok", "wish in:vi:-:-", "best vi 0.9")
        self.talk(first, "wish in:vi:-:-", "unmet", "files", "f")
        self.talk(Desk(), "files", "none", "wish in:vi:-:-", "unmet")


class ShelfTest(DeskTest):
    def test_the_text_of_a_shelf(self):
        self.talk(Desk(), "shelf\n" + SHELF, "ok", "files", "none", "stand", "", "wish in:vi:-:-", "best vi 0.9")
        self.talk(Desk(), "shelf\nparcel a 1 0", "ok", "wish in:a:-:-", "best a 1", "files", "none", "stand", "in a 1")

    def test_parcels_in_any_order(self):
        self.talk(
            Desk(), "shelf\nparcel b 2 0\nparcel a 1 0\nparcel b 1 0", "ok", "wish in:b:-:- in:a:-:-", "best a 1 b 2",
        )

    def test_the_shelf_without_parcels(self):
        desk = self.desk("wish in:vi:-:-")
        self.talk(desk, "shelf\n", "ok", "files", "none", "stand", "", "wish in:vi:-:-", "unmet", "wish out:vi", "best")

    def test_told_anew(self):
        desk = self.desk("wish in:ed:-:-", "edit f\n|x", "choose text vi")
        self.talk(desk, "shelf\n" + SHELF, "ok", "files", "none", "stand", "", "look", "none", "up", "quiet")
        self.refuse(desk, "back 1", NoFormer)
        self.talk(desk, "wish in:vi:-:-", "best vi 0.9", "files", "=mail =text vi")

    def test_told_anew_behind_a_fall(self):
        for many in range(6):
            desk = self.desk(f"allow {many}")
            self.refuse(desk, "wish in:ed:-:-", Fallen)
            self.talk(
                desk, "shelf\n" + SHELF, "ok", "up", "quiet", "files", "none", "stand", "", "wish in:ed:-:-",
                "best ed 2 lib 2", "files", "=text conf/ed lib",
            )

    def test_another_shelf(self):
        desk = self.desk("wish in:vi:-:-", "allow 0", "shelf\nparcel vi 3 0\nfile f")
        self.talk(desk, "wish in:vi:-:-", "best vi 3", "files", "f", "show f", "")


class WishTest(DeskTest):
    def test_best(self):
        desk = self.desk()
        self.talk(
            desk, "wish in:vi:-:-", "best vi 0.9", "wish in:ed:-:-", "best ed 1.2.0 lib 1.4 vi 0.9", "wish out:vi",
            "best ed 1.2.0 lib 1.4", "wish in:ed:2:-", "best ed 2 lib 2", "wish out:lib", "best", "stand", "",
        )

    def test_bounds(self):
        for word, answer in (
            ("in:lib:-:-", "best lib 2"), ("in:lib:1.4:-", "best lib 2"), ("in:lib:-:2", "best lib 1.4"),
            ("in:lib:1.4:2.0.0", "best lib 2"), ("in:lib:1.4:2", "best lib 1.4"), ("in:lib:1.4.0:2", "unmet"),
            ("in:lib:2:2", "unmet"), ("in:lib:2.0:-", "unmet"), ("in:lib:0:1.4", "unmet"), ("in:lib:-:0", "unmet"),
            ("in:lib:1000000000.1000000000.1000000000:-", "unmet"), ("in:lib:-:1000000000", "best lib 2"),
        ):
            self.talk(self.desk(), "wish " + word, answer)

    def test_unmet_changes_nothing(self):
        desk = self.desk("wish in:vi:-:-", "allow 0")
        self.talk(
            desk, "wish in:zz:-:-", "unmet", "wish in:ed:2:- in:vi:-:-", "unmet",
            "wish in:ed:-:- out:lib", "unmet", "stand", "in vi 0.9", "wish in:vi:-:-", "best vi 0.9",
        )

    def test_nine_wishes(self):
        words = " ".join(["out:zz"] * 8)
        self.talk(self.desk(), "wish " + words + " in:lib:-:2", "best lib 1.4", "wish in:zz:-:- " + words, "unmet")
        self.talk(self.desk(), "wish in:lib:-:- out:ed in:vi:-:-", "best lib 2 vi 0.9")


class DeedTest(DeskTest):
    def test_edit_and_forget(self):
        desk = self.desk("wish in:ed:-:2")
        self.talk(
            desk, "show conf/ed", "|w = 1\n|end", "edit conf/ed\n|w = 3\n|\n|  end |", "ok", "show conf/ed",
            "|w = 3\n|\n|  end |", "stand", "in ed 1.2.0\nin lib 1.4\nown conf/ed\n<w = 1\n<end\n>w = 3\n>\n>  end |",
            "edit a/b/c/d\n|x", "ok", "files", "=text a/b/c/d conf/ed empty lib", "forget a/b/c/d", "ok",
            "files", "=text conf/ed empty lib", "forget conf/ed", "ok", "show conf/ed", "|w = 1\n|end",
            "stand", "in ed 1.2.0\nin lib 1.4", "forget conf/ed", "ok",
        )

    def test_edit_without_lines(self):
        desk = self.desk("wish in:vi:-:-")
        self.talk(
            desk, "show vi", "|", "edit vi\n", "ok", "show vi", "", "stand", "in vi 0.9\nown vi\n<", "edit f\n", "ok",
            "files", "=mail =text vi", "edit f\n|", "ok", "files", "=mail =text f vi", "show f", "|", "edit f\n", "ok",
            "files", "=mail =text vi", "edit vi\n|", "ok", "stand", "in vi 0.9",
        )

    def test_twenty_lines_of_sixty_signs(self):
        lines = "\n".join(["|" + "x" * 60] * 20)
        signs = "".join(chr(code) for code in range(32, 127) if code != 37)
        self.talk(self.desk(), "edit f\n" + lines, "ok", "show f", lines, "spoil g\n" + lines, "ok", "show g", lines)
        lines = "|" + signs[:60] + "\n|" + signs[60:]
        self.talk(self.desk(), "edit f\n" + lines, "ok", "show f", lines, "spoil f\n" + lines, "ok", "look", "none")

    def test_beside(self):
        desk = self.desk("wish in:ed:-:2", "edit conf/ed\n|w = 3\n|end")
        self.talk(
            desk, "wish in:ed:2:-", "best ed 2 lib 2", "files", "=text conf/ed conf/ed.own lib",
            "show conf/ed", "|w = 2\n|end", "show conf/ed.own", "|w = 3\n|end",
        )

    def test_choose(self):
        desk = self.desk("wish in:ed:-:- in:vi:-:-")
        self.talk(
            desk, "show =text", "|ed", "choose text vi", "ok", "show =text", "|vi", "show =mail", "|vi",
            "choose text zz", "ok", "show =text", "|ed", "choose nobody vi", "ok",
            "stand", "in ed 1.2.0\nin lib 1.4\nin vi 0.9\nchoose nobody vi\nchoose text zz",
            "choose text -", "ok", "choose nobody -", "ok", "choose text -", "ok",
            "stand", "in ed 1.2.0\nin lib 1.4\nin vi 0.9",
        )

    def test_back(self):
        desk = self.desk("wish in:vi:-:-", "edit vi\n|x", "choose text vi", "wish in:ed:-:- out:vi")
        self.talk(
            desk, "back 3", "ok", "stand", "in vi 0.9\nchoose text vi\nown vi\n<\n>x", "show vi", "|x",
            "back 1", "ok", "stand", "in vi 0.9", "show vi", "|", "back 0", "ok", "stand", "", "files", "none",
            "back 6", "ok", "stand", "in vi 0.9", "back 4", "ok",
            "stand", "in ed 2\nin lib 2\nchoose text vi\nown vi\n<\n>x",
        )
        self.refuse(desk, "back 10", NoFormer)
        self.refuse(desk, "back 999999", NoFormer)
        self.talk(desk, "back 9", "ok")


class AllowTest(DeskTest):
    def test_falls_and_coming_up(self):
        desk = self.desk("allow 3")
        self.refuse(desk, "wish in:ed:-:-", Fallen)
        self.talk(desk, "files", "lib", "show lib", "|2", "stand", "in ed 2\nin lib 2")
        for row in ("wish out:a", "edit f\n|x", "forget f", "choose a b", "back 0", "look", "mend"):
            self.refuse(desk, row, NotUp)
        self.refuse(desk, "up", Fallen)
        self.talk(desk, "allow 1", "ok")
        self.refuse(desk, "up", Fallen)
        self.talk(desk, "files", "=text lib", "allow -", "ok", "up", "came", "up", "quiet")
        self.talk(desk, "files", "=text conf/ed lib", "look", "none", "wish in:ed:-:-", "best ed 2 lib 2")

    def test_a_fall_ahead_of_begin(self):
        desk = self.desk("wish in:vi:-:-", "allow 0")
        self.refuse(desk, "edit f\n|x", Fallen)
        self.talk(desk, "up", "quiet", "stand", "in vi 0.9", "look", "none", "allow 3", "ok", "edit f\n|x", "ok")
        self.refuse(desk, "forget f", Fallen)

    def test_a_later_allowance_stands_in_the_place_of_what_was_left(self):
        desk = self.desk("allow 999999", "allow 1", "allow 0")
        self.refuse(desk, "lose f", Fallen)
        self.talk(desk, "allow 1", "ok", "lose f", "ok")
        self.refuse(desk, "lose f", Fallen)
        self.talk(desk, "allow -", "ok", "lose f", "ok", "lose f", "ok", "lose f", "ok")

    def test_reading_takes_no_write(self):
        desk = self.desk("wish in:vi:-:-", "spoil vi\n|x", "allow 0")
        self.talk(
            desk, "files", "=mail =text vi", "show vi", "|x", "stand", "in vi 0.9", "look", "vi unlike", "up", "quiet",
            "wish in:vi:-:-", "best vi 0.9", "allow 1", "ok", "mend", "vi unlike",
        )


class SpoilTest(DeskTest):
    def test_each_sort_of_spot(self):
        for spot in (
            "f", "abcdefgh/b/c/abcdefgh", "f.own", "a/b/c/d.own", "=a", "=abcdefgh", "own", "a/own", "own.own",
        ):
            desk = self.desk()
            self.talk(
                desk, "spoil " + spot + "\n|x\n|", "ok", "files", spot, "show " + spot, "|x\n|",
                "look", spot + " strange", "stand", "",
                "spoil " + spot + "\n", "ok", "show " + spot, "", "lose " + spot, "ok", "files", "none",
                "lose " + spot, "ok", "look", "none",
            )
            self.refuse(desk, "show " + spot, NoFile)

    def test_past_the_house(self):
        desk = self.desk("wish in:vi:-:-", "allow 1", "lose vi", "allow 2")
        self.talk(desk, "look", "vi gone", "spoil vi\n|y", "ok", "look", "vi unlike", "stand", "in vi 0.9")
        self.talk(desk, "lose zz", "ok")
        self.refuse(desk, "lose zz", Fallen)
        self.refuse(desk, "spoil vi\n|z", Fallen)
        self.talk(desk, "show vi", "|y", "up", "quiet")

    def test_behind_a_fall(self):
        desk = self.desk("allow 1")
        self.refuse(desk, "wish in:vi:-:-", Fallen)
        self.talk(
            desk, "allow -", "ok", "spoil vi\n|x", "ok", "spoil zz\n|y", "ok", "files", "vi zz", "lose =text", "ok",
            "up", "came", "files", "=mail =text vi", "show vi", "|",
        )

    def test_a_deed_mends_what_was_spoilt(self):
        desk = self.desk("wish in:vi:-:-", "spoil vi\n|x", "spoil zz\n|y", "lose =text")
        self.talk(desk, "look", "=text gone; vi unlike; zz strange", "edit f\n|x", "ok", "look", "none")
        self.talk(desk, "files", "=mail =text f vi", "show vi", "|")


class LookTest(DeskTest):
    def test_look_and_mend(self):
        desk = self.desk("wish in:vi:-:-")
        self.talk(desk, "look", "none", "mend", "none", "lose vi", "ok", "look", "vi gone", "mend", "vi gone")
        self.talk(desk, "look", "none", "mend", "none", "show vi", "|")
        for row in ("spoil b/c.own\n", "spoil =text\n|zz", "lose =mail", "spoil vi\n|x", "spoil b/c\n|"):
            self.talk(desk, row, "ok")
        told = "=mail gone; =text unlike; b/c strange; b/c.own strange; vi unlike"
        self.talk(desk, "look", told, "look", told, "allow 2", "ok")
        self.refuse(desk, "mend", Fallen)
        told = "b/c strange; b/c.own strange; vi unlike"
        self.talk(desk, "look", told, "stand", "in vi 0.9", "allow 3", "ok", "mend", told, "look", "none")

    def test_files_in_order(self):
        desk = self.desk()
        for spot in ("b", "a/b", "a.own", "=z", "a", "ab", "=a", "a/b.own"):
            self.talk(desk, "spoil " + spot + "\n", "ok")
        self.talk(desk, "files", "=a =z a a.own a/b a/b.own ab b")

    def test_show_of_more_than_twenty_lines(self):
        base = "\n".join(["|p", "|q"] * 5)
        ahead = "\n".join(["|x"] * 10)
        desk = Desk()
        self.talk(
            desk, "shelf\nparcel a 1 0\nfile f\n" + base + "\nparcel a 2 0\nfile f\n" + ahead + "\n" + base, "ok",
            "wish in:a:-:2", "best a 1", "edit f\n" + base + "\n" + ahead.replace("x", "y"), "ok", "wish in:a:2:-",
            "best a 2", "show f", ahead + "\n" + base + "\n" + ahead.replace("x", "y"), "files", "f",
        )


class ByChanceTest(DeskTest):
    """A desk against a house and a disk that are told the same."""

    def rows(self, chance, names):
        """One of each sort: the row, and what it asks of a house."""
        path = chance.one(["f", "g", "h", "d/a", "e/b"])
        spot = chance.one([path, path + ".own", "=m", "=k"])
        lines = chance.lines()
        shown = "\n".join("|" + line for line in lines)
        common = chance.one(["m", "k", "z"])
        name = chance.one(names + ["-"])
        number = chance.one(list(range(12)))
        many = chance.one([0, 1, 2, 3, 5, 8, None, None, None])
        wishes = [chance.wish(names) for turn in range(chance.one([1, 1, 2, 9]))]
        return [
            ("wish " + " ".join(self.wish_shown(wish) for wish in wishes), lambda house: self.best(house.wish(wishes))),
            ("edit " + path + "\n" + shown, lambda house: house.edit(path, lines)),
            ("forget " + path, lambda house: house.forget(path)),
            (f"choose {common} {name}", lambda house: house.choose(common, None if name == "-" else name)),
            (f"back {number}", lambda house: house.back(number)),
            ("allow " + ("-" if many is None else str(many)), lambda house: house.disk.allow(many)),
            ("up", lambda house: "came" if house.come_up() else "quiet"),
            ("up", lambda house: "came" if house.come_up() else "quiet"),
            ("spoil " + spot + "\n" + shown, lambda house: house.disk.put(spot, lines)),
            ("lose " + spot, lambda house: house.disk.erase(spot)),
            ("look", lambda house: self.looks(house.look())), ("mend", lambda house: self.looks(house.mend())),
        ]

    def wish_shown(self, wish):
        bounds = [".".join(str(number) for number in bound) if bound else "-" for bound in wish[2:]]
        return ":".join(list(wish[:2]) + bounds)

    def best(self, outcome):
        if not isinstance(outcome, Best):
            return "unmet"
        words = ["best"]
        for name in sorted(outcome.chosen):
            words.extend([name, ".".join(str(number) for number in outcome.chosen[name])])
        return " ".join(words)

    def looks(self, told):
        return "; ".join(" ".join(look) for look in told) or "none"

    def check_all(self, desk, house):
        files = house.disk.files_now()
        self.assertEqual(desk.say("stand"), text_by_the_words(parts_of(house.stand())))
        self.assertEqual(desk.say("files"), " ".join(sorted(files)) or "none")
        for path, lines in files.items():
            self.assertEqual(desk.say("show " + path), "\n".join("|" + line for line in lines))
        for path in ("f", "zz", "f.own", "=m"):
            if path not in files:
                self.refuse(desk, "show " + path, NoFile)

    def test_many_rows(self):
        names = ["a", "b", "c", "d"]
        refusals = set()
        for number in range(60):
            chance = DeedChance(number)
            desk = Desk()
            house = House(Shelf([]), Disk())
            for turn in range(40):
                if turn in (2, 30):
                    house = House(chance.shelf(names), Disk())
                    self.talk(desk, "shelf\n" + shelf_shown(house.shelf), "ok")
                row, do = chance.one(self.rows(chance, names))
                try:
                    expected = do(house)
                except MendError as refusal:
                    refusals.add(type(refusal))
                    self.refuse(desk, row, type(refusal))
                else:
                    self.talk(desk, row, "ok" if expected is None else expected)
                self.check_all(desk, house)
        self.assertEqual(refusals, {Fallen, NotUp, NoFormer})


if __name__ == "__main__":
    unittest.main()
