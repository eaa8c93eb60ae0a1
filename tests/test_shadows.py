"""Promises 2, 3 and 10: shadows, and where lines meet a plate's plane."""

import unittest
from fractions import Fraction

from dialyard.plates import comes_from_ahead, front_of, is_ahead, point_of
from dialyard.ratios import is_ratio
from dialyard.shadows import meeting_of, shadow_of
from helping import BIG, BIGGER, E9, FAR, FLOOR, PLATES, SLANTED, SOUTH_WALL, Draw, as_ratio, met, unchanged

PLACES = (((0, 1), (0, 1)), ((1, 1), (1, 1)), ((1, 2), (2, 3)), ((-7, 3), (5, 2)), ((BIG, BIGGER), (-BIGGER, 7)))
DIRECTIONS = ((0, 0, 1), (3, -2, 5), (-4, 1, -1), (E9, -E9, E9), (1, -E9, E9 - 1), (-7, 0, 0))


def against(triple):
    return tuple(-number for number in triple)


def is_place(place):
    return isinstance(place, tuple) and len(place) == 2 and is_ratio(place[0]) and is_ratio(place[1])


class TestShadow(unittest.TestCase):
    def test_straight_from_ahead(self):
        self.assertEqual(shadow_of(FLOOR, (1, 1, 2), (0, 0, 1)), ((1, 4), (1, 2)))
        self.assertEqual(shadow_of(FLOOR, (4, 2, 9), (0, 0, 7)), ((1, 1), (1, 1)))
        self.assertEqual(shadow_of(SOUTH_WALL, (2, -5, 6), (0, -1, 0)), ((1, 5), (3, 7)))

    def test_it_falls_against_the_direction(self):
        self.assertEqual(shadow_of(FLOOR, (1, 1, 2), (-1, 0, 1)), ((3, 4), (1, 2)))
        self.assertEqual(shadow_of(FLOOR, (1, 1, 2), (0, 1, 4)), ((1, 4), (1, 4)))
        self.assertEqual(shadow_of(SOUTH_WALL, (2, -1, 9), (0, -3, 4)), ((1, 5), (2, 7)))

    def test_it_may_lie_off_the_plate(self):
        self.assertEqual(shadow_of(FLOOR, (1, 1, 2), (1, 0, 1)), ((-1, 4), (1, 2)))
        self.assertEqual(shadow_of(FLOOR, (100, -100, 3), (5, 7, 1)), ((85, 4), (-121, 2)))

    def test_sides_that_are_not_square(self):
        plate = ((1, 0, 0), (2, 0, 0), (1, 1, 0))
        self.assertEqual(shadow_of(plate, (3, 1, 5), (0, 0, 2)), ((1, 2), (1, 1)))
        plate = ((0, 0, 0), (0, 1, 0), (1, 0, 1))
        self.assertEqual(shadow_of(plate, (3, 2, 1), (1, 0, 0)), ((2, 1), (1, 1)))

    def test_great_numbers(self):
        plate = ((-E9, -E9, -E9), (E9, 0, 0), (0, E9, 0))
        self.assertEqual(shadow_of(plate, (E9, E9, E9), (E9, E9, E9)), ((0, 1), (0, 1)))
        self.assertEqual(shadow_of(plate, (E9, E9, E9), (E9, E9 - 1, E9)), ((0, 1), (1, E9 // 2)))
        self.assertEqual(shadow_of(plate, (E9, E9, 1 - E9), (-E9, E9, 1)), ((3, 1), (1, 1)))

    def test_as_of_no_direction_from_ahead(self):
        for direction in ((1, 0, 0), (0, -1, 0), (E9, -E9, 0), (0, 0, -1), (3, 4, -1), (E9, E9, -1)):
            self.assertIsNone(shadow_of(FLOOR, (1, 1, 2), direction))
        for direction in ((2, -1, 4), (3, 2, 2), (10, -8, -7)):
            self.assertIsNone(shadow_of(SLANTED, (-13, 13, 9), direction))
        self.assertIsNotNone(shadow_of(FLOOR, (1, 1, 2), (E9, E9, 1)))

    def test_so_many_times_the_direction_is_the_same(self):
        for many in (2, 7, 10 ** 8):
            self.assertEqual(
                shadow_of(SLANTED, (-13, 13, 9), (-9 * many, 8 * many, 7 * many)),
                shadow_of(SLANTED, (-13, 13, 9), (-9, 8, 7)),
            )

    def test_it_lies_in_the_plane_and_on_the_line_behind_the_tip(self):
        draw = Draw(10)
        shadows = 0
        for turn in range(400):
            most = (3, 20, E9)[turn % 3]
            plate, tip, direction = draw.plate(most), draw.triple(most), draw.direction(most)
            if not is_ahead(plate, tip):
                continue
            place = shadow_of(plate, tip, direction)
            if not comes_from_ahead(plate, direction):
                self.assertIsNone(place)
                continue
            shadows += 1
            self.assertTrue(is_place(place))
            s, t, along = met(plate, [(number, 1) for number in tip], direction)
            self.assertEqual(place, (as_ratio(s), as_ratio(t)))
            self.assertLess(along, 0)
            point = point_of(plate, place)
            self.assertEqual(point, tuple(as_ratio(tip[k] + along * direction[k]) for k in range(3)))
        self.assertGreater(shadows, 50)

    def test_nothing_handed_in_is_changed(self):
        unchanged(self, shadow_of, FLOOR, (1, 1, 2), (-1, 0, 1))
        unchanged(self, shadow_of, FLOOR, (1, 1, 2), (-1, 0, -1))


class TestMeeting(unittest.TestCase):
    def test_ordinary(self):
        self.assertEqual(meeting_of(FLOOR, ((1, 2), (1, 3), (5, 1)), (0, 0, 1)), ((1, 8), (1, 6)))
        self.assertEqual(meeting_of(FLOOR, ((1, 2), (1, 3), (1, 2)), (1, 0, 1)), ((0, 1), (1, 6)))
        self.assertEqual(meeting_of(FLOOR, ((1, 2), (1, 3), (1, 2)), (-3, 2, 2)), ((5, 16), (-1, 12)))

    def test_it_is_met_on_either_side_and_from_either_side(self):
        for point in (((1, 2), (1, 3), (5, 2)), ((1, 2), (1, 3), (-5, 2))):
            for direction in ((1, 2, 4), (-1, 5, -3)):
                told = meeting_of(FLOOR, point, direction)
                self.assertIsNotNone(told)
                self.assertEqual(meeting_of(FLOOR, point, against(direction)), told)
        self.assertEqual(meeting_of(FLOOR, ((1, 1), (1, 1), (-2, 1)), (0, 0, -1)), ((1, 4), (1, 2)))

    def test_a_point_of_the_plane_is_met_in_its_own_place(self):
        for plate in PLATES:
            for place in PLACES:
                for direction in DIRECTIONS:
                    if met(plate, point_of(plate, place), direction) is not None:
                        self.assertEqual(meeting_of(plate, point_of(plate, place), direction), place)

    def test_none_along_the_plane(self):
        for plate in PLATES:
            for direction in (plate[1], plate[2], against(plate[1])):
                for point in (point_of(plate, PLACES[2]), ((0, 1), (1, 7), (-3, 2)), ((BIG, 7), (1, BIGGER), (0, 1))):
                    self.assertIsNone(meeting_of(plate, point, direction))
        self.assertIsNone(meeting_of(FLOOR, ((1, 2), (1, 2), (0, 1)), (3, -5, 0)))
        self.assertIsNone(meeting_of(FLOOR, ((1, 2), (1, 2), (1, 1)), (E9, E9, 0)))
        self.assertIsNotNone(meeting_of(FLOOR, ((1, 2), (1, 2), (1, 1)), (E9, E9, -1)))

    def test_great_numbers(self):
        point = ((E9, 1), (-E9, 1), (E9, 1))
        self.assertEqual(meeting_of(FAR, point, (1, 1, 1)), ((0, 1), (0, 1)))
        far = ((BIG, BIGGER), (-BIGGER, 7), (BIGGER, BIG))
        s, t, along = met(FAR, far, (E9, -E9, E9 - 1))
        self.assertEqual(meeting_of(FAR, far, (E9, -E9, E9 - 1)), (as_ratio(s), as_ratio(t)))

    def test_it_is_the_shadow_of_a_tip(self):
        for plate in PLATES:
            tip = tuple(plate[0][k] + front_of(plate)[k] for k in range(3))
            self.assertEqual(
                shadow_of(plate, tip, front_of(plate)),
                meeting_of(plate, tuple((number, 1) for number in tip), front_of(plate)),
            )
            self.assertEqual(shadow_of(plate, tip, front_of(plate)), ((0, 1), (0, 1)))

    def test_many(self):
        draw = Draw(11)
        none = 0
        for turn in range(600):
            most = (1, 3, 20, E9)[turn % 4]
            plate, point, direction = draw.plate(most), draw.point(most), draw.direction(most)
            told = met(plate, point, direction)
            place = meeting_of(plate, point, direction)
            if told is None:
                none += 1
                self.assertIsNone(place)
                continue
            self.assertTrue(is_place(place))
            self.assertEqual(place, (as_ratio(told[0]), as_ratio(told[1])))
            there = tuple(as_ratio(Fraction(*point[k]) + told[2] * direction[k]) for k in range(3))
            self.assertEqual(point_of(plate, place), there)
        self.assertGreater(none, 20)

    def test_nothing_handed_in_is_changed(self):
        unchanged(self, meeting_of, FLOOR, ((1, 2), (1, 3), (1, 2)), (-3, 2, 2))
        unchanged(self, meeting_of, FLOOR, ((1, 2), (1, 3), (1, 2)), (-3, 2, 0))


if __name__ == "__main__":
    unittest.main()
