"""Point 19, with 2, 4 and 5: stands written as texts and read from them."""

import copy
import itertools
import unittest

from helpers import parts_of
from parcelmend.stands import Stand
from parcelmend.standtexts import read_stand, stand_shown

BIG = 10 ** 9


def turned(part):
    """The dict in which the keys came the other way round."""
    return {key: part[key] for key in reversed(part)}


class StandTextTest(unittest.TestCase):
    def check(self, chosen, choices, own, rows):
        text = "\n".join(rows)
        with self.subTest(text=text):
            stand = Stand(chosen, choices, own)
            before = copy.deepcopy(parts_of(stand))
            self.assertEqual(stand_shown(stand), text)
            self.assertEqual(parts_of(stand), before)
            self.assertEqual(stand_shown(stand), text)
            self.assertEqual(stand_shown(Stand(turned(chosen), turned(choices), turned(own))), text)
            told = read_stand(text)
            self.assertIsInstance(told, Stand)
            self.assertEqual(parts_of(told), (chosen, choices, own))
            self.check_kinds(told)
            self.assertEqual(stand_shown(told), text)

    def check_kinds(self, stand):
        self.assertEqual([type(part) for part in parts_of(stand)], [dict, dict, dict])
        for make in stand.chosen.values():
            self.assertIs(type(make), tuple)
            self.assertEqual({type(number) for number in make}, {int})
        for change in stand.own.values():
            self.assertIs(type(change), tuple)
            self.assertEqual([type(lines) for lines in change], [list, list])


class PartsTest(StandTextTest):
    def test_the_empty_stand(self):
        self.check({}, {}, {}, [])
        self.assertEqual(stand_shown(Stand({}, {}, {})), "")
        self.assertEqual(parts_of(read_stand("")), ({}, {}, {}))

    def test_each_part_alone(self):
        self.check({"a": (1,)}, {}, {}, ["in a 1"])
        self.check({}, {"mail": "b"}, {}, ["choose mail b"])
        self.check({}, {}, {"f": (["x"], ["y"])}, ["own f", "<x", ">y"])

    def test_each_two_parts(self):
        self.check({"a": (1,)}, {"mail": "b"}, {}, ["in a 1", "choose mail b"])
        self.check({"a": (1,)}, {}, {"f": ([], [])}, ["in a 1", "own f"])
        self.check({}, {"mail": "b"}, {"f": ([], [])}, ["choose mail b", "own f"])

    def test_all_parts(self):
        self.check(
            {"zed": (1, 2, 0), "ab": (10, 0), "a": (0,)},
            {"mail": "zed", "ed": "nobody"},
            {"conf/ed": (["width = 80", ""], ["width = 100"]), "a": ([], ["one", "two"]), "b": (["gone"], [])},
            [
                "in a 0", "in ab 10.0", "in zed 1.2.0",
                "choose ed nobody", "choose mail zed",
                "own a", ">one", ">two",
                "own b", "<gone",
                "own conf/ed", "<width = 80", "<", ">width = 100",
            ],
        )

    def test_every_order_in_which_the_dicts_were_filled(self):
        chosen = {"b": (2,), "ab": (1, 3), "a": (10,)}
        choices = {"y": "a", "x": "b", "xy": "a"}
        own = {"b": ([], ["1"]), "a/b": (["2"], []), "a": (["3"], ["4"])}
        text = "\n".join([
            "in a 10", "in ab 1.3", "in b 2", "choose x b", "choose xy a", "choose y a",
            "own a", "<3", ">4", "own a/b", "<2", "own b", ">1",
        ])
        for order in itertools.permutations(range(3)):
            parts = [dict([list(part.items())[place] for place in order]) for part in (chosen, choices, own)]
            self.assertEqual(stand_shown(Stand(*parts)), text)

    def test_names_like_words_of_the_rows(self):
        self.check(
            {"in": (1,), "choose": (2,), "own": (3,)}, {"own": "in", "in": "own", "choose": "choose"},
            {"own": ([], []), "in/own": ([], []), "choose": ([], [])},
            [
                "in choose 2", "in in 1", "in own 3", "choose choose choose", "choose in own", "choose own in",
                "own choose", "own in/own", "own own",
            ],
        )

    def test_paths_as_texts_are_compared(self):
        paths = ["a", "a/a", "a/b", "a/b/c", "aa", "aa/a", "ab", "b", "b/a/a/a"]
        self.assertEqual(paths, sorted(paths))
        self.check({}, {}, {path: ([], []) for path in reversed(paths)}, [f"own {path}" for path in paths])

    def test_chosen_is_not_held_against_a_shelf(self):
        # More names than a shelf has, none of them anywhere.
        names = [first + second for first in "abc" for second in "abcd"]
        self.check({name: (7,) for name in names}, {name: "x" for name in names}, {}, (
            [f"in {name} 7" for name in names] + [f"choose {name} x" for name in names]
        ))


class OwnLinesTest(StandTextTest):
    def test_without_base_or_mine(self):
        self.check({}, {}, {"f": ([], [])}, ["own f"])
        self.check({}, {}, {"f": ([], ["x", "x"])}, ["own f", ">x", ">x"])
        self.check({}, {}, {"f": (["x", "x"], [])}, ["own f", "<x", "<x"])
        self.check({}, {}, {"f": ([], []), "g": (["x"], []), "h": ([], ["x"]), "i": ([], [])}, [
            "own f", "own g", "<x", "own h", ">x", "own i",
        ])

    def test_lines_without_signs(self):
        self.check({}, {}, {"f": ([""], [])}, ["own f", "<"])
        self.check({}, {}, {"f": ([], [""])}, ["own f", ">"])
        self.check({}, {}, {"f": (["", ""], ["", "", ""])}, ["own f", "<", "<", ">", ">", ">"])

    def test_lines_like_rows(self):
        lines = ["<", ">", "<x", ">x", " ", " x", "x ", "  two  blanks  ", "own f", "in a 1", "choose a b", "|", "<>"]
        self.check({}, {}, {"f": (lines, lines[::-1])}, (
            ["own f"] + ["<" + line for line in lines] + [">" + line for line in reversed(lines)]
        ))

    def test_lines_keep_their_order(self):
        self.check({}, {}, {"f": (["b", "a", "b"], ["2", "10", "1"])}, ["own f", "<b", "<a", "<b", ">2", ">10", ">1"])

    def test_base_and_mine_alike(self):
        self.check({}, {}, {"f": (["x"], ["x"])}, ["own f", "<x", ">x"])

    def test_every_sign_that_a_line_may_have(self):
        for code in range(32, 127):
            if code != 37:
                sign = chr(code)
                lines = [sign, sign + "x", "x" + sign, sign * 60]
                self.check({}, {}, {"f": (lines, lines)}, (
                    ["own f"] + ["<" + line for line in lines] + [">" + line for line in lines]
                ))

    def test_told_stand_is_the_askers_own(self):
        text = "in a 1\nchoose b c\nown f\n<x\n>y"
        told = read_stand(text)
        told.own["f"][0].append("more")
        told.own["f"][1].append("more")
        told.chosen.clear()
        told.choices["d"] = "e"
        self.assertEqual(stand_shown(read_stand(text)), text)


class GreatestTest(StandTextTest):
    def test_makes(self):
        for make, shown in (
            ((0,), "0"), ((0, 0), "0.0"), ((0, 0, 0), "0.0.0"), ((10, 100, 1000), "10.100.1000"),
            ((BIG,), "1000000000"), ((999999999, 0), "999999999.0"),
            ((BIG, BIG, BIG), "1000000000.1000000000.1000000000"),
        ):
            self.check({"a": make}, {}, {}, [f"in a {shown}"])

    def test_every_letter(self):
        for letter in "abcdefghijklmnopqrstuvwxyz":
            for name in (letter, letter * 8, "m" + letter):
                path = "/".join([name] * 4)
                rows = [f"in {name} 1", f"choose {name} {name}", f"own {path}"]
                self.check({name: (1,)}, {name: name}, {path: ([], [])}, rows)

    def test_everything_at_its_greatest(self):
        name = "zyxwvuts"
        path = "abcdefgh/ijklmnop/qrstuvwx/yzabcdef"
        base = [(str(number) + "~" * 60)[:60] for number in range(20)]
        mine = [(str(number) + " " * 60)[:60] for number in range(20)]
        self.check({name: (BIG, BIG, BIG)}, {name: name}, {path: (base, mine), "z": (mine, base)}, (
            [f"in {name} 1000000000.1000000000.1000000000", f"choose {name} {name}"]
            + [f"own {path}"] + ["<" + line for line in base] + [">" + line for line in mine]
            + ["own z"] + ["<" + line for line in mine] + [">" + line for line in base]
        ))

    def test_twenty_lines_of_one_alone(self):
        rows = ["own f"] + ["<"] * 20 + ["own g"] + [">x"] * 20
        self.check({}, {}, {"f": ([""] * 20, []), "g": ([], ["x"] * 20)}, rows)


if __name__ == "__main__":
    unittest.main()
