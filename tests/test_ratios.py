"""Promises 2 and 4: whole numbers and fractions."""

import unittest
from fractions import Fraction
from math import gcd

from dialyard.errors import NoNumber
from dialyard.ratios import (
    is_ratio, is_under, is_whole, ratio_by, ratio_less, ratio_of, ratio_sum, ratio_times,
)
from helping import BIG, BIGGER, HUGE, NO_WHOLES, WHOLES, as_ratio, refused, unchanged

RATIOS = (
    (0, 1), (1, 1), (-1, 1), (1, 2), (-1, 2), (1, 3), (2, 3), (-5, 6), (7, 10), (10 ** 9, 1),
    (BIG, BIG + 1), (-BIG, BIG + 1), (BIGGER, 7), (1, BIGGER), (-1, BIGGER), (HUGE, 10), (3, HUGE),
)

NO_RATIOS = (
    (0, 2), (0, -1), (0, 0), (1, 0), (-1, 0), (1, -2), (-1, -2), (2, 4), (6, 3), (-6, 4),
    (BIG * 2, BIGGER * 2), (1, -BIG), (1,), (1, 2, 1), (), [1, 2], {1: 2}, "12", "1/2", 1, 0,
    (True, 2), (1, True), (False, 1), (1, False), (1.0, 2), (1, 2.0), ("1", "2"), (None, 1),
    (1, None), ([1], 2), (1, [2]), ((1,), (2,)), ((1, 2), 1), ({}, 1), (1, {}), Fraction(1, 2),
)


class TestWhole(unittest.TestCase):
    def test_whole_numbers(self):
        for number in WHOLES:
            self.assertIs(is_whole(number), True)

    def test_anything_else(self):
        for thing in NO_WHOLES:
            self.assertIs(is_whole(thing), False)


class TestIsRatio(unittest.TestCase):
    def test_fractions(self):
        for ratio in RATIOS:
            self.assertIs(is_ratio(ratio), True, ratio)

    def test_what_is_none(self):
        for thing in NO_RATIOS:
            self.assertIs(is_ratio(thing), False, thing)

    def test_anything_at_all(self):
        for thing in NO_WHOLES:
            told = thing == (1, 2) if isinstance(thing, tuple) else False
            self.assertIs(is_ratio(thing), told)
            self.assertIs(is_ratio((thing, 1)), False)
            self.assertIs(is_ratio((1, thing)), False)
            self.assertIs(is_ratio((thing, thing)), False)

    def test_each_of_a_small_field(self):
        for top in range(-12, 13):
            for bottom in range(-12, 13):
                told = bottom >= 1 and gcd(top, bottom) == 1
                self.assertIs(is_ratio((top, bottom)), told, (top, bottom))


class TestRatioOf(unittest.TestCase):
    def test_ordinary(self):
        self.assertEqual(ratio_of(3, 4), (3, 4))
        self.assertEqual(ratio_of(6, 4), (3, 2))
        self.assertEqual(ratio_of(8, 4), (2, 1))
        self.assertEqual(ratio_of(-6, 4), (-3, 2))

    def test_nought_is_nought_by_one(self):
        for bottom in (1, -1, 5, -5, BIG, -HUGE):
            self.assertEqual(ratio_of(0, bottom), (0, 1))

    def test_a_bottom_below_nought(self):
        self.assertEqual(ratio_of(1, -2), (-1, 2))
        self.assertEqual(ratio_of(-1, -2), (1, 2))
        self.assertEqual(ratio_of(6, -4), (-3, 2))
        self.assertEqual(ratio_of(BIG, -1), (-BIG, 1))

    def test_a_common_factor_of_great_numbers(self):
        self.assertEqual(ratio_of(BIG * 15, BIG * 21), (5, 7))
        self.assertEqual(ratio_of(-BIG * BIGGER, BIGGER), (-BIG, 1))
        self.assertEqual(ratio_of(BIGGER, BIG * BIGGER), (1, BIG))

    def test_any_two_whole_numbers(self):
        for top in WHOLES:
            for bottom in WHOLES:
                if bottom != 0:
                    ratio = ratio_of(top, bottom)
                    self.assertEqual(ratio, as_ratio(Fraction(top, bottom)))
                    self.assertIs(is_ratio(ratio), True)

    def test_a_bottom_of_nought_is_refused(self):
        for top in WHOLES:
            refused(self, NoNumber, ratio_of, top, 0)

    def test_anything_else_is_refused(self):
        for thing in NO_WHOLES:
            refused(self, NoNumber, ratio_of, thing, 1)
            refused(self, NoNumber, ratio_of, 1, thing)
            refused(self, NoNumber, ratio_of, thing, 0)
            refused(self, NoNumber, ratio_of, 0, thing)
            refused(self, NoNumber, ratio_of, thing, thing)

    def test_fractions_are_no_whole_numbers(self):
        refused(self, NoNumber, ratio_of, (1, 2), 3)
        refused(self, NoNumber, ratio_of, 3, (1, 2))

    def test_nothing_handed_in_is_changed(self):
        for thing in ([1, 2], {1: [2]}, [[1], {2: 3}]):
            unchanged(self, ratio_of, thing, 1)
            unchanged(self, ratio_of, 1, thing)
            unchanged(self, is_ratio, (thing, thing))
            unchanged(self, is_ratio, thing)
            unchanged(self, is_whole, thing)


class TestReckoning(unittest.TestCase):
    def test_ordinary(self):
        self.assertEqual(ratio_sum((1, 2), (1, 3)), (5, 6))
        self.assertEqual(ratio_less((1, 2), (1, 3)), (1, 6))
        self.assertEqual(ratio_less((1, 3), (1, 2)), (-1, 6))
        self.assertEqual(ratio_times((2, 3), (3, 4)), (1, 2))
        self.assertEqual(ratio_by((1, 2), (-3, 4)), (-2, 3))

    def test_common_factors_go(self):
        self.assertEqual(ratio_sum((1, 6), (1, 3)), (1, 2))
        self.assertEqual(ratio_less((5, 6), (5, 6)), (0, 1))
        self.assertEqual(ratio_times((0, 1), (-5, 6)), (0, 1))
        self.assertEqual(ratio_by((-5, 6), (-5, 6)), (1, 1))

    def test_all_pairs(self):
        for one in RATIOS:
            for other in RATIOS:
                left = Fraction(*one)
                right = Fraction(*other)
                self.assertEqual(ratio_sum(one, other), as_ratio(left + right))
                self.assertEqual(ratio_less(one, other), as_ratio(left - right))
                self.assertEqual(ratio_times(one, other), as_ratio(left * right))
                self.assertIs(is_under(one, other), left < right)
                if right != 0:
                    self.assertEqual(ratio_by(one, other), as_ratio(left / right))

    def test_a_quotient_by_nought_is_refused(self):
        for one in RATIOS:
            refused(self, NoNumber, ratio_by, one, (0, 1))

    def test_under(self):
        self.assertIs(is_under((1, 3), (1, 2)), True)
        self.assertIs(is_under((1, 2), (1, 3)), False)
        self.assertIs(is_under((1, 2), (1, 2)), False)
        self.assertIs(is_under((-1, 2), (-1, 3)), True)
        self.assertIs(is_under((0, 1), (1, BIGGER)), True)
        self.assertIs(is_under((-1, BIGGER), (0, 1)), True)
        self.assertIs(is_under((BIG, BIG + 1), (BIG + 1, BIG + 2)), True)


if __name__ == "__main__":
    unittest.main()
