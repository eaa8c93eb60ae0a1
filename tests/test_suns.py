"""Promises 2 and 9: suns."""

import unittest

from dialyard.errors import NoHour, NoSun
from dialyard.suns import direction_at, is_up, look_at_sun
from helping import BIG, E9, HUGE, NO_WHOLES, Thorn, exchanged, refused, unchanged

DAY = [(6, (9, 0, 0)), (9, (4, -3, 2)), (12, (0, -2, 5)), (15, (-4, -3, 2)), (18, (-9, 0, -1))]


def hours_from(first, many):
    return [(hour, (1, hour, -2)) for hour in range(first, first + many)]


def refused_at(case, at, thing):
    told = refused(case, NoSun, look_at_sun, thing).at
    case.assertEqual(told, at)
    case.assertNotIsInstance(told, bool)


class TestSuns(unittest.TestCase):
    def test_ordinary(self):
        self.assertIsNone(look_at_sun(DAY))
        self.assertIsNone(look_at_sun([(0, (0, 0, 1))]))
        self.assertIsNone(look_at_sun([(7, (0, 0, -1)), (2000, (1, 0, 0)), (2001, (1, 0, 0))]))

    def test_one_to_eighty(self):
        for many in (1, 2, 79, 80):
            self.assertIsNone(look_at_sun(hours_from(0, many)))
            self.assertIsNone(look_at_sun(hours_from(10000 - many, many)))

    def test_none_and_more_than_eighty(self):
        for many in (0, 81, 82, 500):
            refused_at(self, None, hours_from(0, many))

    def test_more_than_eighty_come_ahead_of_what_is_in_them(self):
        refused_at(self, None, [None] + hours_from(0, 80))
        refused_at(self, None, hours_from(0, 80) + [None])
        refused_at(self, None, [None] * 81)
        refused_at(self, 0, [None] * 80)

    def test_what_is_no_list(self):
        for thing in NO_WHOLES + (0, 1, -1, BIG, tuple(DAY), dict(DAY), DAY[0]):
            if not isinstance(thing, list):
                refused_at(self, None, thing)

    def test_lists_of_other_things(self):
        refused_at(self, None, [])
        for thing in NO_WHOLES + (0, 7, -1):
            refused_at(self, 0, [thing])
            refused_at(self, 0, [thing] + DAY)
            refused_at(self, 2, DAY[:2] + [thing] + DAY[2:])
            refused_at(self, 5, DAY + [thing])


class TestTuples(unittest.TestCase):
    def test_of_another_length_or_kind(self):
        for thing in (
            (), (12,), ((0, -2, 5),), (12, (0, -2, 5), 1), (12, 0, -2, 5), [12, (0, -2, 5)],
            {12: (0, -2, 5)}, {0: 12, 1: (0, -2, 5)}, ((0, -2, 5), 12), "12",
        ):
            refused_at(self, 0, [thing])
            refused_at(self, 1, [DAY[0], thing, DAY[3]])

    def test_hours_at_the_bounds_and_one_beyond(self):
        self.assertIsNone(look_at_sun([(0, (0, 0, 1)), (9999, (0, 0, 1))]))
        for hour in (-1, 10000, -BIG, BIG, -HUGE, HUGE):
            refused_at(self, 0, [(hour, (0, 0, 1))])
        refused_at(self, 1, [(0, (0, 0, 1)), (10000, (0, 0, 1))])
        refused_at(self, 0, [(-1, (0, 0, 1)), (0, (0, 0, 1))])

    def test_hours_alike_and_hours_that_fall(self):
        for hour in (9, 8, 6, 0):
            refused_at(self, 2, [(6, (1, 2, 3)), (9, (1, 2, 3)), (hour, (1, 2, 3))])
            refused_at(self, 2, [(6, (1, 2, 3)), (9, (1, 2, 3)), (hour, (4, 5, 6)), (12, (1, 2, 3))])
        self.assertIsNone(look_at_sun([(6, (1, 2, 3)), (9, (1, 2, 3)), (10, (1, 2, 3))]))
        refused_at(self, 1, [(0, (1, 2, 3)), (0, (1, 2, 3))])
        refused_at(self, 1, [(9999, (1, 2, 3)), (9999, (1, 2, 3))])
        refused_at(self, 1, list(reversed(DAY)))
        refused_at(self, 79, hours_from(0, 79) + [(78, (1, 0, 0))])

    def test_wrong_hours(self):
        for thing in NO_WHOLES:
            refused_at(self, 0, [(thing, (0, 0, 1))])
            refused_at(self, 1, [(0, (0, 0, 1)), (thing, (0, 0, 1)), (3, (0, 0, 1))])

    def test_the_nought_triple(self):
        refused_at(self, 0, [(12, (0, 0, 0))])
        refused_at(self, 3, DAY[:3] + [(15, (0, 0, 0))])
        for at in range(3):
            for number in (1, -1):
                self.assertIsNone(look_at_sun([(12, exchanged((0, 0, 0), at, number))]))

    def test_numbers_at_the_bounds_and_one_beyond(self):
        for at in range(3):
            for number in (E9, -E9):
                self.assertIsNone(look_at_sun([(12, exchanged((0, 0, 0), at, number))]))
                self.assertIsNone(look_at_sun([(12, exchanged((E9, -E9, E9), at, number))]))
            for number in (E9 + 1, -E9 - 1, BIG, -BIG, HUGE):
                refused_at(self, 0, [(12, exchanged((1, 2, 3), at, number))])
                refused_at(self, 1, [DAY[0], (12, exchanged((1, 2, 3), at, number))])

    def test_wrong_directions(self):
        for thing in NO_WHOLES + (0, 3):
            if not isinstance(thing, tuple) or thing != (1, 2, 3):
                refused_at(self, 0, [(12, thing)])
                refused_at(self, 1, [(11, (0, 0, 1)), (12, thing), (13, (0, 0, 1))])
        for at in range(3):
            for thing in NO_WHOLES:
                refused_at(self, 0, [(12, exchanged((1, 2, 3), at, thing))])
        for thing in ([0, -2, 5], (0, -2), (0, -2, 5, 1), {0: 0, 1: -2, 2: 5}, ((0, -2, 5),)):
            refused_at(self, 0, [(12, thing)])

    def test_the_first_that_cannot_stand_is_told(self):
        refused_at(self, 1, [(6, (1, 2, 3)), (5, (1, 2, 3)), (5, (0, 0, 0)), None])
        refused_at(self, 1, [(6, (1, 2, 3)), (7, (0, 0, 0)), (5, (1, 2, 3))])
        refused_at(self, 0, [(10000, (1, 2, 3)), (7, (0, 0, 0)), None])
        refused_at(self, 2, [(1, (1, 2, 3)), (2, (1, 2, 3)), (3,), (2, (1, 2, 3))])

    def test_nothing_handed_in_is_changed(self):
        for thing in (DAY, [], [[6, [1, 2, 3]]], {6: [1, 2, 3]}, list(reversed(DAY)), [(6, [1, 2, 3])], DAY + [{}]):
            unchanged(self, look_at_sun, thing)


class TestHours(unittest.TestCase):
    def test_each_hour_has_its_direction(self):
        for hour, direction in DAY:
            self.assertEqual(direction_at(DAY, hour), direction)
        whole = hours_from(9920, 80)
        for hour, direction in whole:
            self.assertEqual(direction_at(whole, hour), direction)
        self.assertEqual(direction_at([(0, (E9, -E9, E9))], 0), (E9, -E9, E9))

    def test_the_sun_is_up(self):
        self.assertEqual([is_up(DAY, hour) for hour, direction in DAY], [False, True, True, True, False])
        for third, told in ((0, False), (1, True), (-1, False), (E9, True), (-E9, False)):
            for hour in (0, 9999):
                self.assertIs(is_up([(hour, (E9, -E9, third))], hour), told)
        self.assertIs(is_up([(5, (-3, -3, 1))], 5), True)

    def test_other_hours_are_refused(self):
        for hour in (0, 7, 5, 19, 9999, -1, -6, 10000, BIG, -HUGE):
            self.assertEqual(refused(self, NoHour, direction_at, DAY, hour).hour, hour)
            self.assertEqual(refused(self, NoHour, is_up, DAY, hour).hour, hour)

    def test_what_is_no_whole_number_is_no_hour(self):
        sun = [(0, (1, 2, 3)), (1, (4, 5, 6))]
        for thing in NO_WHOLES:
            if not isinstance(thing, Thorn):
                self.assertIs(refused(self, NoHour, direction_at, sun, thing).hour, thing)
                self.assertIs(refused(self, NoHour, is_up, sun, thing).hour, thing)

    def test_nothing_handed_in_is_changed(self):
        for hour in (6, 12, 13):
            unchanged(self, direction_at, DAY, hour)
            unchanged(self, is_up, DAY, hour)


if __name__ == "__main__":
    unittest.main()
