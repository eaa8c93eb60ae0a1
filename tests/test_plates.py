"""Promises 2, 6, 7 and 8: plates, places, and what is ahead."""

import unittest
from fractions import Fraction

from dialyard.errors import NoPlate
from dialyard.plates import comes_from_ahead, front_of, is_ahead, lies_on, look_at_plate, point_of
from dialyard.ratios import is_ratio
from helping import (
    BIG, BIGGER, E9, FAR, FLOOR, NO_WHOLES, PLATES, SLANTED, SOUTH_WALL, as_ratio, refused, unchanged, with_number,
)

PLACE_NUMBERS = ((0, 1), (1, 1), (1, 2), (-1, 3), (5, 2), (-7, 1), (BIG, BIGGER), (-BIGGER, BIG), (BIG, 1))


class TestLookAtPlate(unittest.TestCase):
    def test_plates(self):
        for plate in PLATES:
            self.assertIsNone(look_at_plate(plate))

    def test_numbers_at_the_bounds_and_one_beyond(self):
        for which in range(3):
            for at in range(3):
                for number in (E9, -E9):
                    self.assertIsNone(look_at_plate(with_number(SLANTED, which, at, number)))
                for number in (E9 + 1, -E9 - 1, BIG, -BIG):
                    refused(self, NoPlate, look_at_plate, with_number(SLANTED, which, at, number))

    def test_sides_along_one_line(self):
        for side, other in (
            ((1, 2, 3), (1, 2, 3)), ((1, 2, 3), (-2, -4, -6)), ((2, 0, 0), (3, 0, 0)),
            ((0, 0, 0), (1, 2, 3)), ((1, 2, 3), (0, 0, 0)), ((0, 0, 0), (0, 0, 0)),
            ((E9, E9, -E9), (-1, -1, 1)),
        ):
            refused(self, NoPlate, look_at_plate, ((1, 1, 1), side, other))

    def test_sides_all_but_along_one_line(self):
        self.assertIsNone(look_at_plate(((0, 0, 0), (E9, E9, E9), (E9, E9, E9 - 1))))
        self.assertIsNone(look_at_plate(((0, 0, 0), (E9, E9 - 1, 0), (E9 - 1, E9 - 2, 0))))

    def test_the_corner_may_be_nought(self):
        self.assertIsNone(look_at_plate(((0, 0, 0), (1, 0, 0), (0, 1, 0))))

    def test_things_of_any_other_kind(self):
        for thing in NO_WHOLES + (0, 1, BIG):
            refused(self, NoPlate, look_at_plate, thing)

    def test_of_another_length(self):
        corner, side, other = SLANTED
        for thing in ((), (corner,), (corner, side), (corner, side, other, corner), corner + side + other):
            refused(self, NoPlate, look_at_plate, thing)

    def test_lists_and_dicts_in_the_stead_of_tuples(self):
        corner, side, other = SLANTED
        refused(self, NoPlate, look_at_plate, [corner, side, other])
        refused(self, NoPlate, look_at_plate, {0: corner, 1: side, 2: other})
        for which in range(3):
            within = tuple(list(SLANTED[k]) if k == which else SLANTED[k] for k in range(3))
            refused(self, NoPlate, look_at_plate, within)

    def test_wrong_things_within(self):
        for which in range(3):
            for thing in NO_WHOLES:
                if isinstance(thing, tuple) and thing == (1, 2, 3):
                    continue
                refused(self, NoPlate, look_at_plate, tuple(thing if k == which else SLANTED[k] for k in range(3)))
            for at in range(3):
                for thing in NO_WHOLES:
                    refused(self, NoPlate, look_at_plate, with_number(SLANTED, which, at, thing))

    def test_nothing_handed_in_is_changed(self):
        for thing in ([[1], [2], [3]], {0: [1]}, ([0, 0, 0], [1, 0, 0], [0, 1, 0]), SLANTED):
            unchanged(self, look_at_plate, thing)


class TestFront(unittest.TestCase):
    def test_ordinary(self):
        self.assertEqual(front_of(FLOOR), (0, 0, 8))
        self.assertEqual(front_of(SOUTH_WALL), (0, -35, 0))
        self.assertEqual(front_of(SLANTED), (-10, 8, 7))

    def test_greatest_numbers(self):
        self.assertEqual(front_of(FAR), (-E9 * E9, -E9 * E9, -E9 * E9))

    def test_sides_exchanged_face_the_other_way(self):
        for corner, side, other in PLATES:
            there = front_of((corner, side, other))
            self.assertEqual(front_of((corner, other, side)), tuple(-number for number in there))


class TestPointOf(unittest.TestCase):
    def test_the_corners(self):
        self.assertEqual(point_of(SLANTED, ((0, 1), (0, 1))), ((-3, 1), (5, 1), (2, 1)))
        self.assertEqual(point_of(SLANTED, ((1, 1), (0, 1))), ((-1, 1), (4, 1), (6, 1)))
        self.assertEqual(point_of(SLANTED, ((0, 1), (1, 1))), ((-2, 1), (8, 1), (0, 1)))
        self.assertEqual(point_of(SLANTED, ((1, 1), (1, 1))), ((0, 1), (7, 1), (4, 1)))

    def test_within_and_off_the_plate(self):
        self.assertEqual(point_of(FLOOR, ((1, 3), (1, 2))), ((4, 3), (1, 1), (0, 1)))
        self.assertEqual(point_of(SLANTED, ((1, 2), (1, 3))), ((-5, 3), (11, 2), (10, 3)))
        self.assertEqual(point_of(SLANTED, ((-1, 2), (5, 3))), ((-7, 3), (21, 2), (-10, 3)))

    def test_all_pairs(self):
        for plate in PLATES:
            for s in PLACE_NUMBERS:
                for t in PLACE_NUMBERS:
                    point = point_of(plate, (s, t))
                    told = tuple(
                        as_ratio(plate[0][k] + Fraction(*s) * plate[1][k] + Fraction(*t) * plate[2][k])
                        for k in range(3)
                    )
                    self.assertEqual(point, told)
                    self.assertIsInstance(point, tuple)
                    self.assertTrue(all(is_ratio(number) for number in point))

    def test_unlike_places_have_unlike_points_all_in_the_plane(self):
        for plate in PLATES:
            points = {}
            for s in PLACE_NUMBERS:
                for t in PLACE_NUMBERS:
                    point = point_of(plate, (s, t))
                    self.assertNotIn(point, points)
                    points[point] = (s, t)
                    beyond = [Fraction(*point[k]) - plate[0][k] for k in range(3)]
                    self.assertEqual(sum(front_of(plate)[k] * beyond[k] for k in range(3)), 0)


class TestLiesOn(unittest.TestCase):
    def test_at_the_edges_and_within(self):
        for s in ((0, 1), (1, 1), (1, 2), (1, BIG), (BIG, BIG + 1)):
            for t in ((0, 1), (1, 1), (2, 3), (1, BIGGER)):
                self.assertIs(lies_on((s, t)), True)
                self.assertIs(lies_on((t, s)), True)

    def test_just_beyond(self):
        for s in ((-1, 1), (2, 1), (-1, BIG), (BIG + 1, BIG), (3, 2), (-1, 2), (-BIG, 1)):
            for t in ((0, 1), (1, 1), (1, 2), (2, 1), (-1, 3)):
                self.assertIs(lies_on((s, t)), False)
                self.assertIs(lies_on((t, s)), False)


class TestAhead(unittest.TestCase):
    def test_a_triple(self):
        self.assertIs(is_ahead(FLOOR, (0, 0, 1)), True)
        self.assertIs(is_ahead(FLOOR, (100, -100, 1)), True)
        self.assertIs(is_ahead(FLOOR, (0, 0, -1)), False)
        self.assertIs(is_ahead(SOUTH_WALL, (0, 1, 0)), True)
        self.assertIs(is_ahead(SOUTH_WALL, (0, 3, 0)), False)

    def test_a_triple_is_taken_from_the_corner(self):
        high = ((0, 0, 10), (4, 0, 0), (0, 2, 0))
        self.assertIs(is_ahead(high, (0, 0, 9)), False)
        self.assertIs(is_ahead(high, (0, 0, 11)), True)
        low = ((0, 0, -10), (4, 0, 0), (0, 2, 0))
        self.assertIs(is_ahead(low, (0, 0, -9)), True)

    def test_a_triple_in_the_plane(self):
        for triple in ((0, 0, 0), (4, 2, 0), (-9, 70, 0), (BIG, -BIGGER, 0)):
            self.assertIs(is_ahead(FLOOR, triple), False)
        self.assertIs(is_ahead(SOUTH_WALL, (BIG, 2, -BIG)), False)
        self.assertIs(is_ahead(SLANTED, (0, 7, 4)), False)

    def test_a_direction(self):
        self.assertIs(comes_from_ahead(FLOOR, (5, -3, 1)), True)
        self.assertIs(comes_from_ahead(FLOOR, (5, -3, -1)), False)
        self.assertIs(comes_from_ahead(SOUTH_WALL, (0, -1, 0)), True)
        self.assertIs(comes_from_ahead(SOUTH_WALL, (0, 1, 0)), False)

    def test_a_direction_is_not_taken_from_the_corner(self):
        high = ((0, 0, 10), (4, 0, 0), (0, 2, 0))
        self.assertIs(comes_from_ahead(high, (0, 0, 1)), True)
        low = ((0, 0, -10), (4, 0, 0), (0, 2, 0))
        self.assertIs(comes_from_ahead(low, (0, 0, -1)), False)

    def test_a_direction_in_the_plane(self):
        for direction in ((1, 0, 0), (0, -1, 0), (E9, E9, 0), (BIG, -BIGGER, 0)):
            self.assertIs(comes_from_ahead(FLOOR, direction), False)
        for direction in SLANTED[1:]:
            self.assertIs(comes_from_ahead(SLANTED, direction), False)

    def test_great_numbers_just_off_the_plane(self):
        self.assertIs(is_ahead(FLOOR, (BIG, -BIGGER, 1)), True)
        self.assertIs(is_ahead(FLOOR, (BIG, -BIGGER, -1)), False)
        self.assertIs(comes_from_ahead(FLOOR, (BIG, -BIGGER, 1)), True)
        self.assertIs(comes_from_ahead(FLOOR, (-BIG, BIGGER, -1)), False)

    def test_the_front_comes_from_ahead_of_each_plate(self):
        for plate in PLATES:
            front = front_of(plate)
            self.assertIs(comes_from_ahead(plate, front), True)
            self.assertIs(comes_from_ahead(plate, tuple(-number for number in front)), False)
            self.assertIs(is_ahead(plate, tuple(plate[0][k] + front[k] for k in range(3))), True)
            self.assertIs(is_ahead(plate, tuple(plate[0][k] - front[k] for k in range(3))), False)
            self.assertIs(is_ahead(plate, plate[0]), False)


if __name__ == "__main__":
    unittest.main()
