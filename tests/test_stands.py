"""Points 17 and 18, with 2 and 15: stands and their trees."""

import copy
import itertools
import unittest

from helpers import contents_of, parcel_of, parts_of
from parcelmend.parcels import Shelf
from parcelmend.stands import Stand, tree_of

ONE = (1,)


class StandTest(unittest.TestCase):
    def parts(self):
        return (
            {"b": (1, 2), "a": (0,)}, {"mail": "b", "ed": "x"}, {"f": (["1", ""], ["2"]), "a/b": ([], ["", ">"])},
        )

    def test_fields_are_as_handed_in(self):
        handed = self.parts()
        stand = Stand(*handed)
        self.assertEqual(parts_of(stand), self.parts())
        self.assertEqual(handed, self.parts())

    def test_fields_by_the_names_of_the_arguments(self):
        chosen, choices, own = self.parts()
        self.assertEqual(parts_of(Stand(own=own, choices=choices, chosen=chosen)), self.parts())

    def test_kinds_of_the_fields(self):
        stand = Stand(*self.parts())
        self.assertEqual([type(part) for part in parts_of(stand)], [dict, dict, dict])
        for change in stand.own.values():
            self.assertIs(type(change), tuple)
            self.assertEqual([type(lines) for lines in change], [list, list])

    def test_the_empty_stand(self):
        self.assertEqual(parts_of(Stand({}, {}, {})), ({}, {}, {}))

    def test_what_was_handed_in_changed_behind(self):
        chosen, choices, own = self.parts()
        stand = Stand(chosen, choices, own)
        own["f"][0].append("more")
        own["f"][1][0] = "more"
        own["a/b"][0].append("more")
        own["g"] = ([], [])
        own.pop("a/b")
        chosen["c"] = ONE
        chosen.pop("a")
        choices.clear()
        self.assertEqual(parts_of(stand), self.parts())

    def test_two_stands_of_the_same_parts_are_apart(self):
        first = Stand(*self.parts())
        second = Stand(first.chosen, first.choices, first.own)
        for part, other in zip(parts_of(first), parts_of(second)):
            self.assertIsNot(part, other)
        for path in first.own:
            for lines, others in zip(first.own[path], second.own[path]):
                self.assertIsNot(lines, others)

    def test_one_list_handed_in_twice(self):
        lines = ["x"]
        stand = Stand({}, {}, {"f": (lines, lines), "g": (lines, [])})
        self.assertIsNot(stand.own["f"][0], stand.own["f"][1])
        self.assertIsNot(stand.own["f"][0], stand.own["g"][0])

    def test_what_was_handed_in_changes_no_tree(self):
        chosen = {"a": ONE}
        choices = {"mail": "a"}
        own = {"f": ([], ["mine"])}
        shelf = Shelf([parcel_of("a", ONE, offers=["mail"]), parcel_of("b", ONE, 9, offers=["mail"])])
        stand = Stand(chosen, choices, own)
        chosen["b"] = ONE
        choices["mail"] = "b"
        own["f"][1].append("more")
        own["g"] = ([], [])
        self.assertEqual(tree_of(shelf, stand), {"f": ["mine"], "=mail": ["a"]})


class TreeTest(unittest.TestCase):
    def check(self, parcels, parts, expected):
        shelf = Shelf(parcels)
        stand = Stand(*parts)
        before = copy.deepcopy((contents_of(shelf), parts_of(stand)))
        told = tree_of(shelf, stand)
        self.assertIs(type(told), dict)
        self.assertEqual(told, expected)
        self.assertEqual((contents_of(shelf), parts_of(stand)), before)
        for lines in list(told.values()):
            self.assertIs(type(lines), list)
            lines.append("more")
            lines[0] = "changed"
        told["more"] = []
        told.pop("f", None)
        self.assertEqual((contents_of(shelf), parts_of(stand)), before)
        self.assertEqual(tree_of(shelf, stand), expected)

    def of_own(self, lines, base, mine, expected):
        """One parcel brings these lines at f; own has base and mine there."""
        parcels = [parcel_of("a", ONE, files=[("f", lines.split())])]
        tree = {path: shown.split() for path, shown in expected.items()}
        self.check(parcels, ({"a": ONE}, {}, {"f": (base.split(), mine.split())}), tree)


class BroughtTest(TreeTest):
    def parcels(self):
        return [
            parcel_of("a", (1,), 0, [("f", ["a1"]), ("conf/a", [])]),
            parcel_of("a", (2,), 0, [("f", ["a2", "", "x"])]),
            parcel_of("b", (1,), 0, [("g", ["b1"]), ("f/f", ["b", "b"])]),
            parcel_of("c", (1,)),
        ]

    def test_of_the_empty_stand_nothing(self):
        self.check([], ({}, {}, {}), {})
        self.check(self.parcels(), ({}, {}, {}), {})

    def test_the_paths_of_chosen_and_no_other(self):
        self.check(self.parcels(), ({"a": (1,)}, {}, {}), {"f": ["a1"], "conf/a": []})
        self.check(self.parcels(), ({"a": (2,)}, {}, {}), {"f": ["a2", "", "x"]})
        self.check(self.parcels(), ({"c": (1,)}, {}, {}), {})
        self.check(
            self.parcels(), ({"b": (1,), "c": (1,), "a": (1,)}, {}, {}),
            {"f": ["a1"], "conf/a": [], "g": ["b1"], "f/f": ["b", "b"]},
        )

    def test_one_list_brought_twice_is_told_apart(self):
        lines = ["x"]
        parcels = [parcel_of("a", ONE, files=[("f", lines), ("g", lines)])]
        told = tree_of(Shelf(parcels), Stand({"a": ONE}, {}, {"h": (lines, lines), "i": (lines, lines)}))
        for path in "fghi":
            told[path].append(path)
        self.assertEqual(told, {path: ["x", path] for path in "fghi"})


class OwnTest(TreeTest):
    def test_what_is_brought_is_still_base(self):
        self.of_own("p q r", "p q r", "p x r", {"f": "p x r"})
        self.of_own("p q r", "p q r", "", {"f": ""})
        self.of_own("", "", "x", {"f": "x"})

    def test_own_equals_base(self):
        self.of_own("p x r", "p q r", "p q r", {"f": "p x r"})
        self.of_own("p", "", "", {"f": "p"})

    def test_own_is_what_is_brought(self):
        self.of_own("p x r", "p q r", "p x r", {"f": "p x r"})

    def test_put_together(self):
        self.of_own("p q r y", "p q r s", "x q r s", {"f": "x q r y"})
        self.of_own("x q r s", "p q r s", "p q r y", {"f": "x q r y"})
        self.of_own("p y q", "p q", "x p q", {"f": "x p y q"})

    def test_mine_beside(self):
        self.of_own("p y r", "p q r", "p x r", {"f": "p y r", "f.own": "p x r"})
        self.of_own("", "p q r", "p x r", {"f": "", "f.own": "p x r"})
        self.of_own("p y r", "p q r", "", {"f": "p y r", "f.own": ""})
        self.of_own("y", "", "x", {"f": "y", "f.own": "x"})

    def test_a_path_of_several_words(self):
        parcels = [parcel_of("a", ONE, files=[("conf/ed/x", ["y"])])]
        own = {"conf/ed/x": (["q"], ["x"])}
        self.check(parcels, ({"a": ONE}, {}, own), {"conf/ed/x": ["y"], "conf/ed/x.own": ["x"]})

    def test_a_path_that_nobody_brings(self):
        self.check([], ({}, {}, {"f": (["p"], ["x"]), "g/h": ([], []), "i": (["p"], ["p"])}), {
            "f": ["x"], "g/h": [], "i": ["p"],
        })

    def test_a_path_that_only_a_parcel_outside_brings(self):
        parcels = [parcel_of("a", (1,), files=[("f", ["y"])]), parcel_of("a", (2,)), parcel_of("b", ONE)]
        own = {"f": (["q"], ["x"])}
        self.check(parcels, ({"a": (2,), "b": ONE}, {}, own), {"f": ["x"]})
        self.check(parcels, ({}, {}, own), {"f": ["x"]})
        self.check(parcels, ({"a": (1,)}, {}, own), {"f": ["y"], "f.own": ["x"]})

    def test_beginnings_of_a_path_have_nothing_to_do_with_it(self):
        parcels = [parcel_of("a", ONE, files=[("f", ["y"]), ("f/g", ["z"])])]
        own = {"f/g/h": (["q"], ["x"]), "g": (["q"], ["w"])}
        self.check(parcels, ({"a": ONE}, {}, own), {"f": ["y"], "f/g": ["z"], "f/g/h": ["x"], "g": ["w"]})

    def test_several_at_once(self):
        parcels = [
            parcel_of("a", ONE, files=[("f", ["y"]), ("g", ["p", "q"])]),
            parcel_of("b", ONE, files=[("h", ["z"]), ("i", ["p", "q", "w"])]),
        ]
        own = {
            "f": (["q"], ["x"]), "i": (["p", "q"], ["v", "p", "q"]), "j": ([], ["mine"]), "h": (["1"], ["2"]),
        }
        self.check(parcels, ({"b": ONE, "a": ONE}, {}, own), {
            "f": ["y"], "f.own": ["x"], "g": ["p", "q"], "h": ["z"], "h.own": ["2"], "i": ["v", "p", "q", "w"],
            "j": ["mine"],
        })

    def test_more_than_twenty_lines(self):
        base = [str(number) for number in range(10)]
        ahead = [f"a{number}" for number in range(10)]
        behind = [f"b{number}" for number in range(10)]
        parcels = [parcel_of("a", ONE, files=[("f", base + behind)])]
        self.check(parcels, ({"a": ONE}, {}, {"f": (base, ahead + base)}), {"f": ahead + base + behind})


class CommonNameTest(TreeTest):
    def parcels(self, ranks):
        return [parcel_of(name, ONE, rank, offers=["mail"]) for name, rank in ranks.items()]

    def behind(self, ranks, choices, expected):
        """Whatever order the parcels and the set come in."""
        for order in itertools.permutations(ranks):
            ordered = {name: ranks[name] for name in order}
            chosen = {name: ONE for name in order}
            self.check(self.parcels(ordered), (chosen, choices, {}), {"=mail": [expected]})

    def test_the_only_one(self):
        self.behind({"a": 0}, {}, "a")
        self.behind({"a": 10 ** 9}, {"mail": "a"}, "a")

    def test_the_greatest_rank(self):
        self.behind({"a": 1, "b": 3, "c": 2}, {}, "b")
        self.behind({"a": 9, "b": 10, "c": 2}, {}, "b")
        self.behind({"a": 0, "b": 0, "c": 1}, {}, "c")
        self.behind({"a": 10 ** 9 - 1, "b": 10 ** 9}, {}, "b")

    def test_of_these_the_first_by_name(self):
        self.behind({"b": 5, "a": 5, "c": 5}, {}, "a")
        self.behind({"b": 5, "a": 4, "c": 5}, {}, "b")
        self.behind({"ab": 5, "b": 5, "abc": 5}, {}, "ab")

    def test_the_one_chosen(self):
        ranks = {"a": 1, "b": 3, "c": 2}
        for name in ranks:
            self.behind(ranks, {"mail": name}, name)
            self.behind(ranks, {"web": name}, "b")

    def test_a_choice_of_a_parcel_that_is_not_in(self):
        parcels = self.parcels({"a": 1, "b": 3, "c": 2})
        self.check(parcels, ({"a": ONE, "c": ONE}, {"mail": "b"}, {}), {"=mail": ["c"]})
        self.check(parcels, ({"a": ONE, "c": ONE}, {"mail": "zz"}, {}), {"=mail": ["c"]})
        self.check(parcels, ({"a": ONE, "c": ONE}, {"mail": "mail"}, {}), {"=mail": ["c"]})

    def test_a_choice_of_a_parcel_that_does_not_offer_it(self):
        parcels = self.parcels({"a": 1, "b": 3}) + [parcel_of("c", ONE, 9, offers=["web"]), parcel_of("mail", ONE, 9)]
        chosen = {"a": ONE, "b": ONE, "c": ONE, "mail": ONE}
        for choices in ({"mail": "c"}, {"mail": "mail"}, {"web": "a"}, {}):
            self.check(parcels, (chosen, choices, {}), {"=mail": ["b"], "=web": ["c"]})

    def test_a_choice_of_a_make_that_does_not_offer_it(self):
        parcels = [
            parcel_of("a", (1,), 9, offers=["mail"]), parcel_of("a", (2,), 9), parcel_of("b", ONE, offers=["mail"]),
        ]
        self.check(parcels, ({"a": (2,), "b": ONE}, {"mail": "a"}, {}), {"=mail": ["b"]})
        self.check(parcels, ({"a": (1,), "b": ONE}, {"mail": "b"}, {}), {"=mail": ["b"]})
        self.check(parcels, ({"a": (1,), "b": ONE}, {"mail": "a"}, {}), {"=mail": ["a"]})

    def test_the_rank_of_the_make_that_is_in(self):
        parcels = [
            parcel_of("a", (1,), 1, offers=["mail"]), parcel_of("a", (2,), 3, offers=["mail"]),
            parcel_of("b", ONE, 2, offers=["mail"]),
        ]
        self.check(parcels, ({"a": (1,), "b": ONE}, {}, {}), {"=mail": ["b"]})
        self.check(parcels, ({"a": (2,), "b": ONE}, {}, {}), {"=mail": ["a"]})

    def test_a_choice_of_a_name_that_nobody_offers(self):
        parcels = [parcel_of("a", ONE), parcel_of("b", ONE, offers=["mail"])]
        self.check(parcels, ({"a": ONE}, {"mail": "a", "web": "b", "a": "a"}, {}), {})
        self.check(parcels, ({}, {"mail": "b"}, {}), {})

    def test_several_names(self):
        parcels = [
            parcel_of("a", ONE, 1, offers=["web", "mail", "a"]), parcel_of("b", ONE, 2, offers=["mail", "ed"]),
            parcel_of("c", ONE, 3, offers=["web", "b"]),
        ]
        chosen = {"a": ONE, "b": ONE, "c": ONE}
        self.check(parcels, (chosen, {}, {}), {
            "=a": ["a"], "=b": ["c"], "=ed": ["b"], "=mail": ["b"], "=web": ["c"],
        })
        self.check(parcels, (chosen, {"web": "a", "mail": "a", "ed": "a", "b": "b"}, {}), {
            "=a": ["a"], "=b": ["c"], "=ed": ["b"], "=mail": ["a"], "=web": ["a"],
        })

    def test_beside_files_of_like_names(self):
        parcels = [parcel_of("a", ONE, files=[("mail", ["y"])], offers=["mail"])]
        own = {"mail": (["q"], ["x"])}
        self.check(parcels, ({"a": ONE}, {}, own), {"mail": ["y"], "mail.own": ["x"], "=mail": ["a"]})


if __name__ == "__main__":
    unittest.main()
