"""Promises 2, 20 and 21: the share of a part, and the part of two parts."""

import copy
import itertools
import unittest
from fractions import Fraction

from dialyard.parts import both_of, share_of
from helping import BIG, HUGE, Draw, as_ratio, is_part, part_of_pairs, places_of, turned, unchanged

WHOLE = places_of((0, 0), (1, 0), (1, 1), (0, 1))
# Begun with the least s, of several with the least t.
THREE = places_of((0, 0), (1, 0), (0, 1))
EIGHT = places_of((-2, 0), (-1, -2), (0, -3), (1, -2), (2, 0), (1, 2), (0, 3), (-1, 2))


def box(left, low, right, high):
    return places_of((left, low), (right, low), (right, high), (left, high))


def pairs_of(part):
    return [(Fraction(*s), Fraction(*t)) for s, t in part]


def within(part, pair):
    return all(turned(part[k - 1], part[k], pair) >= 0 for k in range(len(part)))


def crossing(a, b, c, d):
    """Where the edges from a to b and from c to d meet in one place alone, or None."""
    here, there = turned(c, d, a), turned(c, d, b)
    if here == there:
        return None
    way = here / (here - there)
    pair = (a[0] + way * (b[0] - a[0]), a[1] + way * (b[1] - a[1]))
    along = [(pair[k] - c[k]) * (pair[k] - d[k]) for k in range(2)]
    return pair if 0 <= way <= 1 and max(along) <= 0 else None


def both_by_the_words(one, other):
    """All corners that lie in the other one and all crossings of edges, and the part round about them."""
    one, other = pairs_of(one), pairs_of(other)
    if not one or not other:
        return []
    found = [pair for pair in one if within(other, pair)] + [pair for pair in other if within(one, pair)]
    for k, j in itertools.product(range(len(one)), range(len(other))):
        pair = crossing(one[k - 1], one[k], other[j - 1], other[j])
        if pair is not None:
            found.append(pair)
    return part_of_pairs(found)


class TestShares(unittest.TestCase):
    def test_no_part(self):
        self.assertEqual(share_of([]), (0, 1))

    def test_three_corners(self):
        self.assertEqual(share_of(THREE), (1, 2))
        self.assertEqual(share_of(places_of((0, 0), (Fraction(1, 3), 0), (0, Fraction(1, 5)))), (1, 30))
        self.assertEqual(share_of(places_of((-4, 2), (1, -1), (3, 5))), (18, 1))

    def test_more_corners(self):
        self.assertEqual(share_of(WHOLE), (1, 1))
        self.assertEqual(share_of(EIGHT), (14, 1))
        self.assertEqual(share_of(places_of((0, 0), (2, 0), (3, 1), (2, 2), (0, 2))), (5, 1))

    def test_any_places(self):
        self.assertEqual(share_of(box(-3, -7, -1, -2)), (10, 1))
        self.assertEqual(share_of(box(BIG, -BIG, BIG + 3, 1 - BIG)), (3, 1))
        self.assertEqual(share_of(box(0, 0, Fraction(1, BIG), Fraction(BIG, 7))), (1, 7))
        self.assertEqual(share_of(box(-HUGE, 0, 0, Fraction(1, 3))), as_ratio(Fraction(HUGE, 3)))

    def test_it_is_the_same_wherever_the_part_lies(self):
        for s, t in ((5, -3), (Fraction(1, 3), Fraction(-7, 2)), (-BIG, Fraction(1, BIG))):
            moved = places_of(*[(a + s, b + t) for a, b in pairs_of(EIGHT)])
            self.assertEqual(share_of(moved), (14, 1))


class TestBoxes(unittest.TestCase):
    def look(self, one, other, told):
        """Either way about."""
        self.assertEqual(both_of(one, other), told)
        self.assertEqual(both_of(other, one), told)
        is_part(self, told)

    def test_no_part(self):
        self.look([], [], [])
        self.look([], WHOLE, [])
        self.look(EIGHT, [], [])

    def test_with_itself(self):
        for part in (WHOLE, THREE, EIGHT, box(-BIG, 0, BIG, 1)):
            self.look(part, part, part)
            self.look(part, copy.deepcopy(part), part)

    def test_one_within_the_other(self):
        inner = box(Fraction(1, 4), Fraction(1, 3), Fraction(1, 2), Fraction(2, 3))
        self.look(WHOLE, inner, inner)
        self.look(box(-9, -9, 9, 9), EIGHT, EIGHT)
        self.look(box(-2, -3, 2, 3), EIGHT, EIGHT)

    def test_within_and_along_an_edge(self):
        for inner in (
            box(0, 0, Fraction(1, 2), Fraction(1, 2)), box(Fraction(1, 2), Fraction(1, 3), 1, 1),
            box(0, 0, 1, Fraction(1, 2)), box(Fraction(1, 3), 0, Fraction(1, 2), 1),
        ):
            self.look(WHOLE, inner, inner)

    def test_across(self):
        self.look(box(0, 1, 3, 2), box(1, 0, 2, 3), box(1, 1, 2, 2))
        self.look(box(0, 0, 2, 2), box(1, 1, 3, 3), box(1, 1, 2, 2))
        self.look(box(0, 0, 2, 2), box(1, -1, 3, 1), box(1, 0, 2, 1))
        self.look(box(-5, -5, -1, -1), box(-3, -9, 4, -2), box(-3, -5, -1, -2))

    def test_side_by_side_with_a_share_in_both(self):
        self.look(box(0, 0, 2, 1), box(1, 0, 3, 1), box(1, 0, 2, 1))
        self.look(box(0, 0, 1, 2), box(0, 1, 1, 3), box(0, 1, 1, 2))

    def test_touching_along_an_edge(self):
        self.look(box(0, 0, 1, 1), box(1, 0, 2, 1), [])
        self.look(box(0, 0, 1, 1), box(0, 1, 1, 2), [])
        self.look(box(0, 0, 1, 1), box(1, Fraction(1, 3), 2, Fraction(1, 2)), [])
        self.look(box(0, 0, 1, 1), box(1, -5, 2, 7), [])
        self.look(box(0, 0, 1, 1), box(1, Fraction(1, 2), 2, 7), [])

    def test_touching_in_a_corner(self):
        for other in (box(1, 1, 2, 2), box(-1, 1, 0, 2), box(-1, -1, 0, 0), box(1, -1, 2, 0)):
            self.look(WHOLE, other, [])
        self.look(WHOLE, places_of((1, Fraction(1, 2)), (2, 0), (2, 1)), [])
        self.look(THREE, places_of((Fraction(1, 2), Fraction(1, 2)), (1, 1), (0, 1)), [])

    def test_apart(self):
        for other in (box(2, 0, 3, 1), box(0, 2, 1, 3), box(2, 2, 3, 3), box(-9, -9, -8, -8)):
            self.look(WHOLE, other, [])
        self.look(THREE, places_of((1, 1), (2, 1), (1, 2)), [])
        self.look(THREE, box(Fraction(2, 3), Fraction(2, 3), 1, 1), [])

    def test_by_a_hair(self):
        hair = Fraction(1, HUGE)
        self.look(WHOLE, box(1 - hair, 0, 2, 1), box(1 - hair, 0, 1, 1))
        self.look(WHOLE, box(1 + hair, 0, 2, 1), [])
        self.look(WHOLE, box(1 - hair, 1 - hair, 2, 2), box(1 - hair, 1 - hair, 1, 1))


class TestSlanted(unittest.TestCase):
    def test_three_corners(self):
        half = Fraction(1, 2)
        turned_about = places_of((0, 1), (1, 0), (1, 1))
        self.assertEqual(both_of(THREE, turned_about), [])
        self.assertEqual(both_of(WHOLE, THREE), THREE)
        self.assertEqual(both_of(THREE, box(0, 0, half, half)), box(0, 0, half, half))
        self.assertEqual(
            both_of(THREE, box(Fraction(1, 4), Fraction(1, 4), 1, 1)),
            places_of((Fraction(1, 4), Fraction(1, 4)), (Fraction(3, 4), Fraction(1, 4)),
                      (Fraction(1, 4), Fraction(3, 4))),
        )

    def test_a_box_and_one_on_its_corner(self):
        leaning = places_of((-1, 0), (0, -1), (1, 0), (0, 1))
        third = Fraction(3, 4)
        rest = 1 - third
        self.assertEqual(
            both_of(box(-third, -third, third, third), leaning),
            places_of((-third, -rest), (-rest, -third), (rest, -third), (third, -rest),
                      (third, rest), (rest, third), (-rest, third), (-third, rest)),
        )
        # The box's corners lie on the edges of the other one.
        half = Fraction(1, 2)
        self.assertEqual(both_of(box(-half, -half, half, half), leaning), box(-half, -half, half, half))
        self.assertEqual(both_of(box(-1, -1, 1, 1), leaning), leaning)

    def test_no_three_neighbours_lie_on_one_line(self):
        # The other one's corner lies within this one's edge.
        told = both_of(places_of((0, 0), (2, 0), (2, 2)), places_of((0, -1), (3, -1), (1, 1), (0, 1)))
        self.assertEqual(told, places_of((0, 0), (2, 0), (1, 1)))
        is_part(self, told)

    def test_many(self):
        draw = Draw(22)
        seen = {}
        for turn in range(700):
            wide, deep = ((2, 1), (3, 1), (4, 3), (50, 7))[turn % 4]
            two = []
            while len(two) < 2:
                part = part_of_pairs([
                    (Fraction(draw.number(-wide, wide), draw.number(1, deep)),
                     Fraction(draw.number(-wide, wide), draw.number(1, deep))) for corner in range(draw.number(3, 7))
                ])
                if part:
                    is_part(self, part)
                    two.append(part)
            told = both_of(two[0], two[1])
            is_part(self, told)
            self.assertEqual(told, both_by_the_words(two[0], two[1]))
            self.assertEqual(told, both_of(two[1], two[0]))
            self.assertEqual(share_of(told), as_ratio(sum(
                (a[0] * b[1] - b[0] * a[1] for a, b in zip(pairs_of(told), pairs_of(told[1:] + told[:1]))), Fraction(0)
            ) / 2))
            seen[len(told)] = seen.get(len(told), 0) + 1
        self.assertGreater(seen[0], 30)
        self.assertTrue(all(seen.get(many, 0) > 20 for many in (3, 4, 5)))

    def test_of_three_parts(self):
        draw = Draw(23)
        for turn in range(60):
            parts = []
            for number in range(3):
                parts.append(part_of_pairs([(Fraction(draw.number(-5, 5)), Fraction(draw.number(-5, 5)))
                                            for corner in range(8)]))
            told = [both_of(both_of(*order[:2]), order[2]) for order in itertools.permutations(parts)]
            for part in told:
                self.assertEqual(part, told[0])


class TestAsked(unittest.TestCase):
    def test_nothing_handed_in_is_changed(self):
        for one, other in itertools.product((WHOLE, THREE, EIGHT, [], box(5, 5, 6, 6)), repeat=2):
            unchanged(self, both_of, one, other)
            unchanged(self, share_of, one)

    def test_what_is_told_is_the_askers_own(self):
        for one, other in ((WHOLE, WHOLE), (WHOLE, THREE), ([], WHOLE), (WHOLE, []), ([], []), (THREE, box(5, 5, 6, 6))):
            here, there = copy.deepcopy(one), copy.deepcopy(other)
            told = both_of(here, there)
            kept = list(told)
            told.append("mine")
            self.assertEqual((here, there), (one, other))
            told = both_of(here, there)
            self.assertEqual(told, kept)
            here.clear()
            there.clear()
            self.assertEqual(told, kept)


if __name__ == "__main__":
    unittest.main()
