"""Point 25, with 2, 11 and 12, and what point 3 says of steps: the groups from a set to a sound one."""

import copy
import unittest

from helpers import (
    Chance, contents_of, every_set, groups_by_the_words, is_sound_by_the_words, names_to_change, parcel_of,
)
from parcelmend.parcels import Shelf
from parcelmend.steps import groups_to, set_behind

ONE = (1,)
TWO = (2,)
ANY = ((), None)


class StepsTest(unittest.TestCase):
    def check(self, shelf, now, goal, expected):
        before = copy.deepcopy((contents_of(shelf), now, goal))
        with self.subTest(now=now, goal=goal):
            for turn in range(2):
                told = groups_to(shelf, now, goal)
                self.assertIs(type(told), list)
                self.assertEqual([type(group) for group in told], [list] * len(told))
                self.assertEqual(told, expected)
                self.check_way(shelf, now, goal, told)
                self.assertEqual((contents_of(shelf), now, goal), before)
                for group in told:
                    group.append("zz")
                told.append(["zz"])
                self.assertEqual((contents_of(shelf), now, goal), before)

    def check_way(self, shelf, now, goal, groups):
        """No name twice, together just those that are otherwise, each set sound, goal at the end."""
        self.assertEqual(sorted(sum(groups, [])), names_to_change(now, goal))
        reached = now
        for group in groups:
            self.assertEqual(group, sorted(group))
            self.assertGreater(len(group), 0)
            reached = set_behind(reached, goal, group)
            self.assertTrue(is_sound_by_the_words(shelf, reached))
        self.assertEqual(reached, goal)

    def of_parcels(self, parcels, now, goal, expected):
        self.assertEqual(groups_by_the_words(Shelf(parcels), now, goal), expected)
        for ordered in (parcels, parcels[::-1]):
            for turned in (False, True):
                first = dict(list(now.items())[::-1]) if turned else dict(now)
                last = dict(list(goal.items())[::-1]) if turned else dict(goal)
                self.check(Shelf(ordered), first, last, expected)


class OneByOneTest(StepsTest):
    def parcels(self):
        return [parcel_of(name, make) for name in ("c", "a", "ab", "b") for make in (ONE, TWO)]

    def test_nothing_to_change(self):
        self.of_parcels([], {}, {}, [])
        self.of_parcels(self.parcels(), {}, {}, [])
        self.of_parcels(self.parcels(), {"a": ONE, "c": TWO}, {"c": TWO, "a": ONE}, [])

    def test_coming_in(self):
        self.of_parcels(self.parcels(), {}, {"b": ONE}, [["b"]])
        self.of_parcels(self.parcels(), {}, {"c": ONE, "b": TWO, "a": ONE, "ab": ONE}, [["a"], ["ab"], ["b"], ["c"]])
        self.of_parcels(self.parcels(), {"b": ONE}, {"c": ONE, "b": ONE, "a": TWO}, [["a"], ["c"]])

    def test_going_out(self):
        self.of_parcels(self.parcels(), {"b": ONE}, {}, [["b"]])
        self.of_parcels(self.parcels(), {"c": ONE, "b": TWO, "a": ONE}, {"b": TWO}, [["a"], ["c"]])

    def test_another_make(self):
        self.of_parcels(self.parcels(), {"b": ONE}, {"b": TWO}, [["b"]])
        self.of_parcels(self.parcels(), {"b": TWO, "a": ONE}, {"b": ONE, "a": ONE}, [["b"]])

    def test_all_sorts(self):
        self.of_parcels(
            self.parcels(), {"a": ONE, "ab": ONE, "b": ONE}, {"ab": ONE, "b": TWO, "c": ONE}, [["a"], ["b"], ["c"]],
        )

    def test_in_the_order_that_needs_ask_for(self):
        parcels = [parcel_of("a", ONE, needs=[("b",) + ANY]), parcel_of("b", ONE, needs=[("c",) + ANY])]
        parcels.append(parcel_of("c", ONE))
        every = {"a": ONE, "b": ONE, "c": ONE}
        self.of_parcels(parcels, {}, every, [["c"], ["b"], ["a"]])
        self.of_parcels(parcels, every, {}, [["a"], ["b"], ["c"]])
        self.of_parcels(parcels, {"c": ONE}, every, [["b"], ["a"]])

    def test_back_to_the_first_name_behind_each_step(self):
        parcels = [parcel_of("a", ONE, needs=[("b",) + ANY]), parcel_of("b", ONE), parcel_of("c", ONE)]
        self.of_parcels(parcels, {}, {"a": ONE, "b": ONE, "c": ONE}, [["b"], ["a"], ["c"]])

    def test_in_the_order_that_shuts_and_clashes_ask_for(self):
        parcels = [
            parcel_of("a", ONE, files=[("f", [])]), parcel_of("b", ONE, shuts=[("d",) + ANY]), parcel_of("c", ONE),
            parcel_of("d", ONE, files=[("f", [])]),
        ]
        self.of_parcels(parcels, {"d": ONE}, {"a": ONE, "b": ONE, "c": ONE}, [["c"], ["d"], ["a"], ["b"]])
        self.of_parcels(parcels, {"a": ONE, "b": ONE}, {"d": ONE}, [["a"], ["b"], ["d"]])

    def test_eight_names(self):
        names = "abcdefgh"
        parcels = [parcel_of(name, ONE, needs=[(after,) + ANY]) for name, after in zip(names, names[1:])]
        parcels.append(parcel_of("h", ONE))
        every = {name: ONE for name in names}
        self.of_parcels(parcels, {}, every, [[name] for name in names[::-1]])
        self.of_parcels(parcels, every, {}, [[name] for name in names])


class TogetherTest(StepsTest):
    def test_needs_in_a_ring(self):
        parcels = [parcel_of(name, ONE, needs=[(other,) + ANY]) for name, other in zip("abc", "bca")]
        every = {"a": ONE, "b": ONE, "c": ONE}
        self.of_parcels(parcels, {}, every, [["a", "b", "c"]])
        self.of_parcels(parcels, every, {}, [["a", "b", "c"]])
        parcels.append(parcel_of("bb", ONE))
        self.of_parcels(parcels, {}, {**every, "bb": ONE}, [["bb"], ["a", "b", "c"]])

    def test_a_ring_of_eight(self):
        names = "abcdefgh"
        parcels = [parcel_of(name, ONE, needs=[(other,) + ANY]) for name, other in zip(names, names[1:] + "a")]
        self.of_parcels(parcels, {}, {name: ONE for name in names}, [list(names)])
        self.of_parcels(parcels, {name: ONE for name in names}, {}, [list(names)])

    def test_makes_that_go_together(self):
        parcels = [
            parcel_of("a", ONE, needs=[("b", (), TWO)]), parcel_of("a", TWO, needs=[("b", TWO, None)]),
            parcel_of("b", ONE), parcel_of("b", TWO),
        ]
        self.of_parcels(parcels, {"a": ONE, "b": ONE}, {"a": TWO, "b": TWO}, [["a", "b"]])
        self.of_parcels(parcels, {"a": TWO, "b": TWO}, {"a": ONE, "b": ONE}, [["a", "b"]])
        self.of_parcels(parcels, {"b": ONE}, {"a": TWO, "b": TWO}, [["b"], ["a"]])

    def test_a_shut_between_an_old_and_a_new_parcel(self):
        parcels = [
            parcel_of("x", ONE, needs=[("m",) + ANY]), parcel_of("b", ONE, shuts=[("m",) + ANY], offers=["m"]),
            parcel_of("a", ONE, offers=["m"]),
        ]
        self.of_parcels(parcels, {"a": ONE, "x": ONE}, {"b": ONE, "x": ONE}, [["a", "b"]])
        self.of_parcels(parcels, {"b": ONE, "x": ONE}, {"a": ONE, "x": ONE}, [["a", "b"]])
        self.of_parcels(parcels, {"a": ONE}, {"b": ONE}, [["a"], ["b"]])

    def test_a_clash_between_an_old_and_a_new_parcel(self):
        parcels = [
            parcel_of("x", ONE, needs=[("m",) + ANY]), parcel_of("b", ONE, files=[("f", [])], offers=["m"]),
            parcel_of("c", ONE, files=[("f", [])], offers=["m"]),
        ]
        self.of_parcels(parcels, {"b": ONE, "x": ONE}, {"c": ONE, "x": ONE}, [["b", "c"]])
        self.of_parcels(parcels, {"b": ONE}, {"c": ONE}, [["b"], ["c"]])
        self.of_parcels(parcels, {"c": ONE}, {"b": ONE}, [["c"], ["b"]])

    def test_two_that_exchange_a_file(self):
        parcels = [
            parcel_of("a", ONE, files=[("f", [])]), parcel_of("a", TWO, files=[("g", [])]),
            parcel_of("b", ONE, files=[("g", [])]), parcel_of("b", TWO, files=[("f", [])]),
        ]
        self.of_parcels(parcels, {"a": ONE, "b": ONE}, {"a": TWO, "b": TWO}, [["a", "b"]])

    def test_the_first_of_those_with_as_few_names(self):
        ring = [parcel_of(name, ONE, needs=[(other,) + ANY]) for name, other in zip("abcd", "dcba")]
        every = {name: ONE for name in "abcd"}
        self.of_parcels(ring, {}, every, [["a", "d"], ["b", "c"]])
        self.of_parcels(ring, every, {}, [["a", "d"], ["b", "c"]])
        self.of_parcels(ring, {"b": ONE, "c": ONE}, {"a": ONE, "d": ONE}, [["a", "d"], ["b", "c"]])

    def test_fewer_names_ahead_of_earlier_ones(self):
        parcels = [parcel_of(name, ONE, needs=[(other,) + ANY]) for name, other in zip("abcde", "bcaed")]
        parcels.append(parcel_of("f", ONE))
        every = {name: ONE for name in "abcdef"}
        self.of_parcels(parcels, {}, every, [["f"], ["d", "e"], ["a", "b", "c"]])

    def test_two_rings_of_four(self):
        parcels = [parcel_of(name, ONE, needs=[(other,) + ANY]) for name, other in zip("abcdefgh", "cdefghab")]
        every = {name: ONE for name in "abcdefgh"}
        self.of_parcels(parcels, {}, every, [["a", "c", "e", "g"], ["b", "d", "f", "h"]])
        self.of_parcels(parcels, every, {}, [["a", "c", "e", "g"], ["b", "d", "f", "h"]])

    def test_a_ring_and_one_that_hangs_on_it(self):
        for names in ("bc", "bcd", "bcde", "bcdef", "bcdefg", "bcdefgh"):
            parcels = [parcel_of(name, ONE, needs=[(after,) + ANY]) for name, after in zip(names, names[1:] + "b")]
            parcels.append(parcel_of("a", ONE, needs=[("c",) + ANY]))
            every = {name: ONE for name in "a" + names}
            self.of_parcels(parcels, {}, every, [list(names), ["a"]])
            self.of_parcels(parcels, every, {}, [["a"], list(names)])

    def test_more_than_two_of_several(self):
        parcels = [
            parcel_of("a", ONE), parcel_of("b", ONE, needs=[("c",) + ANY, ("d",) + ANY]),
            parcel_of("c", ONE, needs=[("b",) + ANY]), parcel_of("d", ONE, needs=[("c",) + ANY, ("a",) + ANY]),
        ]
        self.of_parcels(parcels, {}, {name: ONE for name in "abcd"}, [["a"], ["b", "c", "d"]])
        self.of_parcels(parcels, {name: ONE for name in "abcd"}, {}, [["b", "c", "d"], ["a"]])
        self.of_parcels(parcels[1:], {}, {}, [])


class NotSoundNowTest(StepsTest):
    def test_a_need_that_is_not_met_now(self):
        parcels = [parcel_of("a", ONE, needs=[("b",) + ANY]), parcel_of("b", ONE), parcel_of("c", ONE)]
        self.of_parcels(parcels, {"a": ONE}, {"a": ONE, "b": ONE, "c": ONE}, [["b"], ["c"]])
        self.of_parcels(parcels, {"a": ONE}, {"c": ONE}, [["a"], ["c"]])
        self.of_parcels(parcels, {"a": ONE, "c": ONE}, {}, [["a"], ["c"]])

    def test_two_faults_now(self):
        parcels = [
            parcel_of("a", ONE, needs=[("z",) + ANY]), parcel_of("b", ONE, needs=[("z",) + ANY]), parcel_of("c", ONE),
            parcel_of("d", ONE),
        ]
        self.of_parcels(parcels, {"a": ONE, "b": ONE, "d": ONE}, {"c": ONE}, [["a", "b"], ["c"], ["d"]])
        self.of_parcels(parcels, {"b": ONE, "a": ONE}, {}, [["a", "b"]])

    def test_a_clash_now(self):
        parcels = [parcel_of(name, ONE, files=[("f", [])]) for name in "abc"]
        every = {name: ONE for name in "abc"}
        self.of_parcels(parcels, every, {"b": ONE}, [["a", "c"]])
        self.of_parcels(parcels, every, {}, [["a", "b"], ["c"]])
        self.of_parcels(parcels, {"a": ONE, "b": ONE}, {"c": ONE}, [["a"], ["b"], ["c"]])


class WordsOfThePointTest(StepsTest):
    def test_shelves_of_all_sorts(self):
        together = 0
        for number in range(60):
            chance = Chance(number)
            shelf = chance.shelf(["a", "b", "c", "d"])
            sets = every_set(shelf)
            goals = [chosen for chosen in sets if is_sound_by_the_words(shelf, chosen)]
            for turn in range(12):
                now = chance.one(sets)
                goal = chance.one(goals)
                expected = groups_by_the_words(shelf, now, goal)
                self.check(shelf, now, goal, expected)
                together = together + (1 < max([len(group) for group in expected], default=0))
        self.assertGreater(together, 50)


class BehindTest(unittest.TestCase):
    def check(self, now, goal, group, expected):
        handed = copy.deepcopy((now, goal, group))
        for turn in range(2):
            told = set_behind(now, goal, group)
            self.assertIs(type(told), dict)
            self.assertEqual(told, expected)
            self.assertEqual((now, goal, group), handed)
            told["zz"] = ONE
            told.pop("a", None)
            self.assertEqual((now, goal, group), handed)

    def test_as_in_goal(self):
        now = {"a": ONE, "b": ONE, "c": ONE}
        goal = {"b": TWO, "c": ONE, "d": TWO}
        self.check(now, goal, ["b"], {"a": ONE, "b": TWO, "c": ONE})
        self.check(now, goal, ["d"], {"a": ONE, "b": ONE, "c": ONE, "d": TWO})
        self.check(now, goal, ["b", "d"], {"a": ONE, "b": TWO, "c": ONE, "d": TWO})

    def test_taken_out(self):
        self.check({"a": ONE, "b": ONE}, {"b": TWO}, ["a"], {"b": ONE})
        self.check({"a": ONE, "b": ONE}, {}, ["a"], {"b": ONE})
        self.check({"a": ONE, "b": ONE}, {}, ["a", "b"], {})

    def test_all_names_lead_to_goal(self):
        now = {"a": ONE, "b": ONE, "c": ONE}
        goal = {"b": TWO, "c": ONE, "d": TWO}
        self.check(now, goal, ["a", "b", "d"], goal)
        self.check(goal, now, ["a", "b", "d"], now)
        self.check({}, goal, ["b", "c", "d"], goal)
        self.check(goal, {}, ["b", "c", "d"], {})

    def test_names_that_are_the_same_in_both(self):
        self.check({"a": ONE, "b": ONE}, {"a": ONE}, ["a"], {"a": ONE, "b": ONE})
        self.check({"b": ONE}, {"b": TWO}, ["a"], {"b": ONE})


if __name__ == "__main__":
    unittest.main()
