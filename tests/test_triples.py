"""Promises 2 and 5: triples."""

import unittest

from dialyard.triples import (
    FARTHEST, NOUGHT, cross_of, dot_of, is_near_triple, is_triple, triple_less, triple_sum, triple_times,
)
from helping import BIG, BIGGER, HUGE, NO_WHOLES, WHOLES, unchanged

TRIPLES = (
    (0, 0, 0), (1, 0, 0), (0, 1, 0), (0, 0, 1), (1, 2, 3), (-4, 5, -6), (7, -8, 9),
    (10 ** 9, -10 ** 9, 10 ** 9), (BIG, -BIGGER, 1), (-BIG, BIG, BIGGER), (HUGE, -1, -HUGE),
)


class TestIsTriple(unittest.TestCase):
    def test_triples(self):
        for triple in TRIPLES:
            self.assertIs(is_triple(triple), True)
        for number in WHOLES:
            self.assertIs(is_triple((number, 0, number)), True)

    def test_of_another_length_or_kind(self):
        for thing in ((), (1,), (1, 2), (1, 2, 3, 4), [1, 2, 3], "123", {0: 1, 1: 2, 2: 3}, 123, ((1, 2, 3),)):
            self.assertIs(is_triple(thing), False, thing)

    def test_anything_at_all(self):
        for thing in NO_WHOLES:
            told = thing == (1, 2, 3) if isinstance(thing, tuple) else False
            self.assertIs(is_triple(thing), told)
            self.assertIs(is_triple((thing, 0, 0)), False)
            self.assertIs(is_triple((0, thing, 0)), False)
            self.assertIs(is_triple((0, 0, thing)), False)

    def test_nothing_handed_in_is_changed(self):
        for thing in ([1, 2, 3], {1: [2]}, ([1], [2], [3])):
            unchanged(self, is_triple, thing)
            unchanged(self, is_near_triple, thing)


class TestNear(unittest.TestCase):
    def test_the_edges(self):
        self.assertEqual(FARTHEST, 10 ** 9)
        for at in range(3):
            for number in (10 ** 9, -10 ** 9, 0):
                self.assertIs(is_near_triple(tuple(number if k == at else 0 for k in range(3))), True)
            for number in (10 ** 9 + 1, -10 ** 9 - 1, BIG, -BIG):
                self.assertIs(is_near_triple(tuple(number if k == at else 0 for k in range(3))), False)

    def test_what_is_no_triple(self):
        for thing in NO_WHOLES:
            self.assertIs(is_near_triple((thing, 0, 0)), False)


class TestReckoning(unittest.TestCase):
    def test_ordinary(self):
        self.assertEqual(triple_sum((1, 2, 3), (10, -20, 30)), (11, -18, 33))
        self.assertEqual(triple_less((1, 2, 3), (10, -20, 30)), (-9, 22, -27))
        self.assertEqual(triple_times((1, -2, 3), 4), (4, -8, 12))
        self.assertEqual(triple_times((1, -2, 3), -1), (-1, 2, -3))
        self.assertEqual(triple_times((1, -2, 3), 0), NOUGHT)
        self.assertEqual(dot_of((1, 2, 3), (4, -5, 6)), 12)
        self.assertEqual(cross_of((1, 2, 3), (4, -5, 6)), (27, 6, -13))

    def test_the_nought_triple(self):
        self.assertEqual(NOUGHT, (0, 0, 0))
        for triple in TRIPLES:
            self.assertEqual(triple_sum(triple, NOUGHT), triple)
            self.assertEqual(triple_less(triple, triple), NOUGHT)
            self.assertEqual(dot_of(triple, NOUGHT), 0)
            self.assertEqual(cross_of(triple, NOUGHT), NOUGHT)
            self.assertEqual(cross_of(triple, triple), NOUGHT)

    def test_the_cross_goes_east_north_up(self):
        self.assertEqual(cross_of((1, 0, 0), (0, 1, 0)), (0, 0, 1))
        self.assertEqual(cross_of((0, 1, 0), (0, 0, 1)), (1, 0, 0))
        self.assertEqual(cross_of((0, 0, 1), (1, 0, 0)), (0, 1, 0))
        self.assertEqual(cross_of((0, 1, 0), (1, 0, 0)), (0, 0, -1))

    def test_all_pairs(self):
        for one in TRIPLES:
            for other in TRIPLES:
                a, b, c = one
                d, e, f = other
                self.assertEqual(triple_sum(one, other), (a + d, b + e, c + f))
                self.assertEqual(triple_less(one, other), (a - d, b - e, c - f))
                self.assertEqual(dot_of(one, other), a * d + b * e + c * f)
                self.assertEqual(cross_of(one, other), (b * f - c * e, c * d - a * f, a * e - b * d))
                self.assertIs(is_triple(cross_of(one, other)), True)

    def test_timed_by_each_number(self):
        for a, b, c in TRIPLES:
            for many in WHOLES:
                self.assertEqual(triple_times((a, b, c), many), (a * many, b * many, c * many))


if __name__ == "__main__":
    unittest.main()
