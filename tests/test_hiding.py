"""Promises 2 and 11: when a plate hides a point from a direction."""

import unittest

from dialyard.hiding import hides_point
from dialyard.plates import point_of
from helping import BIG, E9, FLOOR, PLATES, SLANTED, Draw, met, unchanged

# Four wide to the east, two to the north, five above the ground; it faces up.
ROOF = ((0, 0, 5), (4, 0, 0), (0, 2, 0))
CEILING = ((0, 0, 5), (0, 2, 0), (4, 0, 0))

EDGES = ((0, 1), (1, 3), (1, 1))


def near(ratio, many):
    """The fraction moved outwards from the half by one part of so many."""
    top, bottom = ratio
    if ratio == (1, 1):
        return (many + 1, many)
    return (-1, many) if top == 0 else (top, bottom)


def start_for(plate, place, direction, many):
    """The point from which, by so many times the direction, the plate's place is come to."""
    point = point_of(plate, place)
    return tuple((point[k][0] - many * direction[k] * point[k][1], point[k][1]) for k in range(3))


class TestHides(unittest.TestCase):
    def test_ordinary(self):
        self.assertIs(hides_point(ROOF, ((1, 1), (1, 1), (0, 1)), (0, 0, 1)), True)
        self.assertIs(hides_point(ROOF, ((1, 2), (1, 3), (0, 1)), (0, 0, 1)), True)
        self.assertIs(hides_point(ROOF, ((5, 1), (1, 1), (0, 1)), (0, 0, 1)), False)
        self.assertIs(hides_point(ROOF, ((-3, 1), (1, 1), (0, 1)), (0, 0, 1)), False)
        self.assertIs(hides_point(ROOF, ((-3, 1), (1, 1), (0, 1)), (1, 0, 1)), True)

    def test_from_ahead_and_from_behind(self):
        for plate in (ROOF, CEILING):
            self.assertIs(hides_point(plate, ((1, 1), (1, 1), (0, 1)), (0, 0, 1)), True)
            self.assertIs(hides_point(plate, ((1, 1), (1, 1), (9, 1)), (0, 0, -1)), True)

    def test_a_plate_that_lies_behind_the_point(self):
        for plate in (ROOF, CEILING):
            self.assertIs(hides_point(plate, ((1, 1), (1, 1), (9, 1)), (0, 0, 1)), False)
            self.assertIs(hides_point(plate, ((1, 1), (1, 1), (0, 1)), (0, 0, -1)), False)
            self.assertIs(hides_point(plate, ((1, 1), (1, 1), (0, 1)), (1, 1, -1)), False)

    def test_just_beneath_and_just_above_the_plane(self):
        self.assertIs(hides_point(ROOF, ((1, 1), (1, 1), (5 * BIG - 1, BIG)), (0, 0, 1)), True)
        self.assertIs(hides_point(ROOF, ((1, 1), (1, 1), (5 * BIG + 1, BIG)), (0, 0, 1)), False)
        self.assertIs(hides_point(ROOF, ((1, 1), (1, 1), (5 * BIG + 1, BIG)), (0, 0, -1)), True)

    def test_no_point_of_its_own_plane(self):
        for plate in PLATES + (ROOF, CEILING):
            for place in (((1, 2), (1, 3)), ((0, 1), (0, 1)), ((1, 1), (1, 2)), ((7, 1), (-1, 2))):
                point = point_of(plate, place)
                for direction in ((0, 0, 1), (0, 0, -1), (3, -1, 2), (-E9, E9, 1 - E9), plate[1], plate[2]):
                    self.assertIs(hides_point(plate, point, direction), False)

    def test_a_direction_along_the_plane(self):
        for height in ((0, 1), (5, 1), (9, 1)):
            for direction in ((1, 0, 0), (0, -1, 0), (E9, E9, 0)):
                self.assertIs(hides_point(ROOF, ((-1, 1), (1, 1), height), direction), False)
        self.assertIs(hides_point(ROOF, ((-1, 1), (1, 1), (0, 1)), (1, 0, 0)), False)

    def test_it_is_a_half_line(self):
        for many in (1, 2, 3, E9):
            for place in (((1, 2), (1, 3)), ((0, 1), (1, 1))):
                for plate in (ROOF, CEILING, SLANTED):
                    direction = (1, -2, 3)
                    self.assertIs(hides_point(plate, start_for(plate, place, direction, many), direction), True)
                    self.assertIs(hides_point(plate, start_for(plate, place, direction, -many), direction), False)


class TestEdges(unittest.TestCase):
    def test_the_very_edge_and_corner(self):
        for plate in PLATES + (ROOF, CEILING):
            for s in EDGES:
                for t in EDGES:
                    for direction in ((1, -2, 3), (-5, 1, 2)):
                        start = start_for(plate, (s, t), direction, 2)
                        self.assertIs(hides_point(plate, start, direction), True)

    def test_just_beyond_an_edge_or_corner(self):
        for plate in PLATES + (ROOF, CEILING):
            for many in (2, 1000, BIG):
                for s in EDGES:
                    for t in EDGES:
                        beyond = (near(s, many), near(t, many))
                        if beyond == (s, t):
                            continue
                        for place in (beyond, (beyond[0], t), (s, beyond[1])):
                            start = start_for(plate, place, (1, -2, 3), 2)
                            told = place == (s, t)
                            self.assertIs(hides_point(plate, start, (1, -2, 3)), told)

    def test_by_hand(self):
        # From (0, 0, 0) by the corner (4, 2, 5), and by one billionth beside it.
        start = ((0, 1), (0, 1), (0, 1))
        self.assertIs(hides_point(ROOF, start, (4, 2, 5)), True)
        self.assertIs(hides_point(ROOF, start, (8 * 10 ** 7, 4 * 10 ** 7, 10 ** 8)), True)
        self.assertIs(hides_point(ROOF, start, (8 * 10 ** 7 + 1, 4 * 10 ** 7, 10 ** 8)), False)
        self.assertIs(hides_point(ROOF, start, (8 * 10 ** 7, 4 * 10 ** 7 + 1, 10 ** 8)), False)
        self.assertIs(hides_point(ROOF, start, (8 * 10 ** 7 - 1, 4 * 10 ** 7 - 1, 10 ** 8)), True)
        self.assertIs(hides_point(ROOF, start, (0, 0, 1)), True)
        self.assertIs(hides_point(ROOF, start, (-1, 0, E9)), False)
        self.assertIs(hides_point(ROOF, start, (0, -1, E9)), False)
        self.assertIs(hides_point(ROOF, start, (1, 0, E9)), True)


class TestMany(unittest.TestCase):
    def test_many(self):
        draw = Draw(12)
        told = {True: 0, False: 0}
        for turn in range(1500):
            most = (1, 3, 9, E9)[turn % 4]
            plate, point, direction = draw.plate(most), draw.point(most), draw.direction(most)
            there = met(plate, point, direction)
            hides = there is not None and there[2] > 0 and 0 <= there[0] <= 1 and 0 <= there[1] <= 1
            self.assertIs(hides_point(plate, point, direction), hides)
            told[hides] += 1
        self.assertGreater(told[True], 50)
        self.assertGreater(told[False], 50)

    def test_nothing_handed_in_is_changed(self):
        unchanged(self, hides_point, ROOF, ((1, 1), (1, 1), (0, 1)), (0, 0, 1))
        unchanged(self, hides_point, FLOOR, ((1, 1), (1, 1), (0, 1)), (0, 0, 1))


if __name__ == "__main__":
    unittest.main()
