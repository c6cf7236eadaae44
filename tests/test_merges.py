"""Points 13 to 16, with 2: blocks, and two changes put together."""

import itertools
import unittest

from helpers import block_by_the_words, stands_within, together_by_the_words
from parcelmend.merges import block_of, put_together


def lists_of(signs, most):
    """All lists of these lines up to that length."""
    return [list(lines) for many in range(most + 1) for lines in itertools.product(signs, repeat=many)]


class BlockTest(unittest.TestCase):
    def check(self, base, other, expected):
        handed = (list(base), list(other))
        with self.subTest(base=base, other=other):
            told = block_of(*handed)
            self.assertEqual(told, expected)
            self.assertEqual([type(part) for part in told], [int, int, list])
            self.assertEqual(handed, (base, other))
            self.assertEqual(base[:told[0]] + told[2] + base[told[1]:], other)
            told[2].append("more")
            told[2][0] = "changed"
            self.assertEqual(handed, (base, other))
            self.assertEqual(block_of(*handed), expected)

    def words(self, base, other, start, stop, lines):
        self.check(base.split(), other.split(), (start, stop, lines.split()))

    def test_the_examples_told(self):
        self.words("p q r s", "p x r s", 1, 2, "x")
        self.words("p q", "p q q", 2, 2, "q")
        for many in range(21):
            lines = [str(number) for number in range(many)]
            self.check(lines, lines, (many, many, []))
            self.check(["p"] * many, ["p"] * many, (many, many, []))

    def test_lists_without_lines(self):
        self.words("", "", 0, 0, "")
        self.words("", "p", 0, 0, "p")
        self.words("", "p q p", 0, 0, "p q p")
        self.words("p", "", 0, 1, "")
        self.words("p q p", "", 0, 3, "")

    def test_one_a_beginning_of_the_other(self):
        self.words("p q", "p q r s", 2, 2, "r s")
        self.words("p q r s", "p q", 2, 4, "")
        self.words("p q r", "p", 1, 3, "")

    def test_one_an_end_of_the_other(self):
        self.words("r s", "p q r s", 0, 0, "p q")
        self.words("p q r s", "r s", 0, 2, "")
        self.words("p", "q p", 0, 0, "q")

    def test_within(self):
        self.words("p q r s", "p q x r s", 2, 2, "x")
        self.words("p q r s", "p s", 1, 3, "")
        self.words("p q r s", "p x y z s", 1, 3, "x y z")
        self.words("p q r s", "x q r s", 0, 1, "x")
        self.words("p q r s", "p q r x", 3, 4, "x")
        self.words("p q r s", "x q r y", 0, 4, "x q r y")
        self.words("p q", "r s t", 0, 2, "r s t")
        self.words("p q r", "p x q y r", 1, 2, "x q y")

    def test_where_begin_and_end_would_overlap(self):
        self.words("p q q", "p q", 2, 3, "")
        self.words("p p", "p p p", 2, 2, "p")
        self.words("p p p", "p p", 2, 3, "")
        self.words("p", "p p p", 1, 1, "p p")
        self.words("p p p", "p", 1, 3, "")
        self.words("p q p", "p q p q p", 3, 3, "q p")
        self.words("p q p q p", "p q p", 3, 5, "")
        self.words("p q p", "p p", 1, 2, "")
        self.words("p p", "p q p", 1, 1, "q")
        self.words("p q q r", "p q q q r", 3, 3, "q")
        self.words("p q q q r", "p q q r", 3, 4, "")
        self.words("p q q p", "p q p", 2, 3, "")

    def test_lines_are_compared_whole(self):
        self.check(["", " "], [" ", ""], (0, 2, [" ", ""]))
        self.check(["a", ""], ["a"], (1, 2, []))
        self.check(["a "], ["a"], (0, 1, ["a"]))
        self.check(["", ""], ["", "x", ""], (1, 1, ["x"]))

    def test_every_two_short_lists(self):
        for base, other in itertools.product(lists_of("pq", 5), repeat=2):
            expected = block_by_the_words(base, other)
            if block_of(base, other) != expected:
                self.check(base, other, expected)
            self.assertEqual(base[:expected[0]] + expected[2] + base[expected[1]:], other)

    def test_twenty_lines(self):
        base = [str(number) for number in range(20)]
        other = base[:7] + ["x"] * 3 + base[10:]
        self.check(base, other, (7, 10, ["x"] * 3))
        self.check(base, base[::-1], (0, 20, base[::-1]))


class PutTogetherTest(unittest.TestCase):
    def check(self, base, own, new, expected):
        handed = (list(base), list(own), list(new))
        with self.subTest(base=base, own=own, new=new):
            told = put_together(*handed)
            self.assertIs(type(told), tuple)
            self.assertEqual(told, expected)
            self.assertEqual(handed, (base, own, new))
            told[0].append("more")
            told[0][0] = "changed"
            if told[1] is not None:
                # What was done to lines may not show in beside.
                self.assertEqual(told[1], expected[1])
                told[1].append("more")
                told[1][0] = "changed"
            self.assertEqual(handed, (base, own, new))
            self.assertEqual(put_together(*handed), expected)

    def both_ways(self, base, own, new, lines):
        """Own and new exchanged lead to the same lines."""
        base, own, new, lines = base.split(), own.split(), new.split(), lines.split()
        self.check(base, own, new, (lines, None))
        self.check(base, new, own, (lines, None))

    def beside(self, base, own, new):
        base, own, new = base.split(), own.split(), new.split()
        self.check(base, own, new, (new, own))
        self.check(base, new, own, (own, new))

    def test_one_equals_base(self):
        for base in ("", "p", "p q r"):
            for new in ("", "p", "x", "p q r", "x q r", "p x q r", "q p"):
                self.both_ways(base, base, new, new)

    def test_own_equals_new(self):
        for base in ("", "p", "p q r"):
            for own in ("", "p", "x", "p q r", "x q r", "p x q r", "q p", "p q r s"):
                self.both_ways(base, own, own, own)

    def test_blocks_apart(self):
        self.both_ways("p q r s", "x q r s", "p q r y", "x q r y")
        self.both_ways("p q r s", "x x q r s", "p q y s", "x x q y s")
        self.both_ways("p q r s", "q r s", "p q r", "q r")
        self.both_ways("p q r s", "q r s", "p q y r s", "q y r s")
        self.both_ways("p q r s t", "p t", "p q r s t u v", "p t u v")

    def test_the_stop_of_one_is_the_start_of_the_other(self):
        self.both_ways("p q r s", "p x r s", "p q y s", "p x y s")
        self.both_ways("p q", "x q", "p y", "x y")
        self.both_ways("p q r s", "r s", "p q", "")
        self.both_ways("p q r s", "x x x r s", "p q y", "x x x y")

    def test_two_that_take_no_line_away(self):
        self.both_ways("p q", "x p q", "p q y", "x p q y")
        self.both_ways("p q", "x p q", "p y q", "x p y q")
        self.both_ways("p q", "p x q", "p q y", "p x q y")
        self.beside("p q", "x p q", "y p q")
        self.beside("p q", "p x q", "p y q")
        self.beside("p q", "p q x", "p q y")
        self.beside("p q", "p q x", "p q x y")
        self.beside("", "x", "y")
        self.beside("", "x", "x y")

    def test_one_that_takes_away_beside_one_that_puts_in(self):
        # At its start, at its stop, and within.
        self.both_ways("p q r s", "p x s", "p y q r s", "p y x s")
        self.both_ways("p q r s", "p x s", "p q r y s", "p x y s")
        self.beside("p q r s", "p x s", "p q y r s")
        self.both_ways("p q r s", "p s", "p y q r s", "p y s")
        self.both_ways("p q r s", "p s", "p q r y s", "p y s")
        self.beside("p q r s", "p s", "p q y r s")
        self.both_ways("p q", "", "y p q", "y")
        self.both_ways("p q", "", "p q y", "y")
        self.both_ways("p q", "x", "y p q", "y x")
        self.both_ways("p q", "x", "p q y", "x y")
        self.beside("p q", "", "p y q")

    def test_blocks_that_are_not_apart(self):
        self.beside("p q r s", "p x r s", "p y r s")
        self.beside("p q r s", "p x s", "p q y s")
        self.beside("p q r s", "x r s", "p y s")
        self.beside("p q r s", "x", "p y r s")
        self.beside("p q r", "x q y", "p z r")
        self.beside("p q r", "", "p x r")
        self.beside("p", "x", "")
        self.beside("p q r", "p", "r")

    def test_lines_that_stand_several_times(self):
        # The blocks are (2, 2, ["q"]) and (0, 1, []).
        self.both_ways("p q", "p q q", "q", "q q")
        # One puts in behind all, the other takes the last away.
        self.both_ways("p p", "p p p", "p", "p p")
        self.beside("p p", "p p p", "p p p p")

    def test_the_same_block_is_no_clash(self):
        self.both_ways("p q r", "p x r", "p x r", "p x r")
        self.both_ways("p q", "p x q", "p x q", "p x q")

    def test_more_than_twenty_lines(self):
        base = [str(number) for number in range(10)]
        ahead = [f"a{number}" for number in range(10)]
        behind = [f"b{number}" for number in range(10)]
        self.check(base, ahead + base, base + behind, (ahead + base + behind, None))
        self.check(base, base + behind, ahead + base, (ahead + base + behind, None))

    def test_every_three_short_lists_against_the_words_of_the_point(self):
        for base, own, new in itertools.product(lists_of("pq", 3), lists_of("pq", 4), lists_of("pq", 3)):
            told = put_together(base, own, new)
            self.assertEqual(told, together_by_the_words(base, own, new), (base, own, new))
        for base, own, new in itertools.product([list("pqr"), list("ppq")], lists_of("pqrx", 3), lists_of("pqry", 3)):
            told = put_together(base, own, new)
            self.assertEqual(told, together_by_the_words(base, own, new), (base, own, new))


class WhatFollowsTest(unittest.TestCase):
    def test_own_is_in_lines_or_beside(self):
        besides = 0
        for base, own, new in itertools.product(lists_of("pq", 3), lists_of("pqx", 3), lists_of("pqy", 3)):
            lines, beside = put_together(base, own, new)
            if beside is not None:
                self.assertEqual(beside, own)
                self.assertEqual(lines, new)
                besides = besides + 1
            elif own != base:
                self.assertTrue(stands_within(block_of(base, own)[2], lines), (base, own, new))
        self.assertGreater(besides, 1000)

    def test_own_and_new_exchanged(self):
        for base, own, new in itertools.product(lists_of("pq", 3), lists_of("pqx", 3), lists_of("pqy", 3)):
            lines, beside = put_together(base, own, new)
            if beside is None:
                self.assertEqual(put_together(base, new, own), (lines, None), (base, own, new))
            else:
                self.assertEqual(put_together(base, new, own), (own, new), (base, own, new))


if __name__ == "__main__":
    unittest.main()
