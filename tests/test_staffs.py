"""Promises 2 and 17: the tips of staffs, and the greatest staff at a foot."""

import unittest
from fractions import Fraction

from dialyard.errors import NoHour, NotLit
from dialyard.plates import comes_from_ahead, front_of, lies_on, point_of
from dialyard.shadows import meeting_of
from dialyard.staffs import greatest_staff, staff_tip
from helping import BIG, E9, FAR, FLOOR, HUGE, PLATES, SLANTED, Draw, as_ratio, refused, unchanged

# Its front is (0, 0, 1), so a staff's height is its height above the ground.
UNIT = ((0, 0, 0), (1, 0, 0), (0, 1, 0))
MIDDLE = ((1, 2), (1, 2))
UP = [(12, (0, 0, 5))]


def staff_for(directions, foot, plate=UNIT):
    sun = list(enumerate(directions))
    return greatest_staff(plate, foot, sun, [hour for hour, direction in sun])


class TestTips(unittest.TestCase):
    def test_ordinary(self):
        self.assertEqual(staff_tip(UNIT, MIDDLE, (2, 1)), ((1, 2), (1, 2), (2, 1)))
        self.assertEqual(staff_tip(FLOOR, ((1, 4), (1, 2)), (1, 3)), ((1, 1), (1, 1), (8, 3)))
        # The cross of (2, -1, 4) and (1, 3, -2) is (-10, 8, 7).
        self.assertEqual(staff_tip(SLANTED, ((1, 2), (1, 3)), (3, 4)), ((-55, 6), (23, 2), (103, 12)))

    def test_at_the_corners(self):
        self.assertEqual(staff_tip(SLANTED, ((0, 1), (0, 1)), (1, 1)), ((-13, 1), (13, 1), (9, 1)))
        self.assertEqual(staff_tip(SLANTED, ((1, 1), (1, 1)), (1, 1)), ((-10, 1), (15, 1), (11, 1)))

    def test_great_numbers(self):
        # The front of it is (-E9 ** 2, -E9 ** 2, -E9 ** 2).
        self.assertEqual(
            staff_tip(FAR, ((1, 2), (0, 1)), (1, E9)), ((-E9 // 2, 1), (-3 * E9 // 2, 1), (0, 1))
        )
        tip = staff_tip(UNIT, ((1, BIG), (BIG - 1, BIG)), (HUGE, BIG))
        self.assertEqual(tip, ((1, BIG), (BIG - 1, BIG), as_ratio(Fraction(HUGE, BIG))))

    def test_many(self):
        draw = Draw(19)
        for turn in range(200):
            plate = draw.plate((3, 20, E9)[turn % 3])
            foot = [Fraction(draw.number(0, 6), 6) for axis in range(2)]
            height = Fraction(draw.number(1, 50), draw.number(1, 50))
            front = front_of(plate)
            tip = [plate[0][k] + foot[0] * plate[1][k] + foot[1] * plate[2][k] + height * front[k] for k in range(3)]
            told = staff_tip(plate, tuple(as_ratio(part) for part in foot), as_ratio(height))
            self.assertEqual(told, tuple(as_ratio(number) for number in tip))


class TestGreatest(unittest.TestCase):
    def test_ordinary(self):
        # The shadow goes by one to the west for each one of height, and by one half.
        self.assertEqual(staff_for([(1, 0, 1)], MIDDLE), (1, 2))
        self.assertEqual(staff_for([(1, 0, 2)], MIDDLE), (1, 1))
        self.assertEqual(staff_for([(1, 0, 2)], ((1, 3), (1, 2))), (2, 3))
        self.assertEqual(staff_for([(-1, 0, 2)], ((1, 3), (1, 2))), (4, 3))
        self.assertEqual(staff_for([(0, 3, 2)], ((1, 3), (3, 4))), (1, 2))
        self.assertEqual(staff_for([(0, -3, 2)], ((1, 3), (3, 4))), (1, 6))

    def test_both_ways_bound_it(self):
        self.assertEqual(staff_for([(1, 2, 2)], ((1, 3), (1, 3))), (1, 3))
        self.assertEqual(staff_for([(2, 1, 2)], ((1, 3), (1, 3))), (1, 3))
        self.assertEqual(staff_for([(1, -2, 2)], ((1, 3), (1, 2))), (1, 2))

    def test_the_least_of_several_hours(self):
        directions = [(1, 0, 1), (1, 0, 3), (0, -1, 4), (0, 0, 1), (-2, 0, 1), (0, 1, 9)]
        self.assertEqual(staff_for(directions, MIDDLE), (1, 4))
        self.assertEqual(staff_for(directions[::-1], MIDDLE), (1, 4))
        self.assertEqual(staff_for(directions[:4], MIDDLE), (1, 2))
        self.assertEqual(staff_for(directions[1:4], MIDDLE), (3, 2))

    def test_only_the_hours_handed_in(self):
        sun = [(3, (1, 0, 1)), (5, (1, 0, 3)), (7, (0, 0, -1)), (9, (0, 0, 1))]
        self.assertEqual(greatest_staff(UNIT, MIDDLE, sun, [5]), (3, 2))
        self.assertEqual(greatest_staff(UNIT, MIDDLE, sun, [9, 5]), (3, 2))
        self.assertEqual(greatest_staff(UNIT, MIDDLE, sun, [5, 3, 9]), (1, 2))
        self.assertIsNone(greatest_staff(UNIT, MIDDLE, sun, [9]))

    def test_hours_told_twice(self):
        sun = [(3, (1, 0, 1)), (5, (1, 0, 3))]
        self.assertEqual(greatest_staff(UNIT, MIDDLE, sun, [5, 5]), (3, 2))
        self.assertEqual(greatest_staff(UNIT, MIDDLE, sun, [5, 3, 5, 3, 3]), (1, 2))
        self.assertIsNone(greatest_staff(UNIT, MIDDLE, UP, [12] * 80))

    def test_a_sun_that_is_down_may_come_from_ahead(self):
        wall = ((0, 0, 0), (1, 0, 0), (0, 0, 1))  # its front is (0, -1, 0)
        sun = [(1, (0, -1, -1)), (2, (0, -1, 0))]
        self.assertEqual(greatest_staff(wall, ((1, 2), (1, 4)), sun, [1]), (3, 4))
        self.assertIsNone(greatest_staff(wall, ((1, 2), (1, 4)), sun, [2]))

    def test_along_the_front_every_height_does(self):
        for plate in PLATES + (UNIT,):
            for foot in (MIDDLE, ((0, 1), (0, 1)), ((1, 1), (1, 3)), ((1, 1), (1, 1))):
                along = front_of(plate)
                while max([abs(number) for number in along]) > E9:
                    along = tuple(number // E9 for number in along)
                self.assertIsNone(staff_for([along], foot, plate))
                self.assertIsNone(staff_for([along, along], foot, plate))

    def test_along_one_edge(self):
        # The shadow of a staff on the edge goes along it, and bounds the height.
        self.assertEqual(staff_for([(0, 1, 1)], ((0, 1), (1, 3))), (1, 3))
        self.assertEqual(staff_for([(0, 1, 1)], ((1, 1), (1, 3))), (1, 3))
        self.assertEqual(staff_for([(1, 0, 1)], ((1, 3), (0, 1))), (1, 3))
        self.assertEqual(staff_for([(-1, 0, 1)], ((1, 3), (1, 1))), (2, 3))

    def test_off_the_plate_from_an_edge(self):
        for s, t, away, within in (
            ((0, 1), (1, 2), (1, 0, 1), (-1, 0, 1)), ((1, 1), (1, 2), (-1, 0, 1), (1, 0, 1)),
            ((1, 2), (0, 1), (0, 1, 1), (0, -1, 1)), ((1, 2), (1, 1), (0, -1, 1), (0, 1, 1)),
        ):
            self.assertEqual(staff_for([away], (s, t)), (0, 1))
            self.assertEqual(staff_for([within], (s, t)), (1, 1))
            self.assertEqual(staff_for([within, away], (s, t)), (0, 1))
            self.assertEqual(staff_for([away, within], (s, t)), (0, 1))
            self.assertEqual(staff_for([(0, 0, 1), away], (s, t)), (0, 1))

    def test_in_a_corner(self):
        for s in (0, 1):
            for t in (0, 1):
                for x in (-1, 0, 1):
                    for y in (-1, 0, 1):
                        # The shadow goes against the direction.
                        leaves = [x == 1 - 2 * s, y == 1 - 2 * t]
                        told = None if x == y == 0 else (0, 1) if any(leaves) else (2, 1)
                        self.assertEqual(staff_for([(x, y, 2)], ((s, 1), (t, 1))), told)

    def test_other_plates(self):
        # The front of the floor is (0, 0, 8), and its sides are 4 and 2 long.
        self.assertEqual(staff_for([(1, 0, 1)], MIDDLE, FLOOR), (1, 4))
        self.assertEqual(staff_for([(0, 1, 1)], MIDDLE, FLOOR), (1, 8))
        self.assertEqual(staff_for([(1, 0, 1), (0, -1, 3)], MIDDLE, FLOOR), (1, 4))

    def test_great_numbers(self):
        great = ((-E9, -E9, -E9), (E9, 0, 0), (0, E9, 0))
        self.assertEqual(staff_for([(E9, 0, 1)], MIDDLE, great), (1, 2 * E9 ** 2))
        self.assertEqual(staff_for([(1, 0, E9)], MIDDLE, great), (1, 2))
        self.assertEqual(staff_for([(1, 0, E9)], ((HUGE - 1, HUGE), (1, 2)), great), (HUGE - 1, HUGE))
        self.assertEqual(staff_for([(-1, 0, E9)], ((HUGE - 1, HUGE), (1, 2)), great), (1, HUGE))


class TestMany(unittest.TestCase):
    def within(self, plate, foot, height, directions):
        tip = staff_tip(plate, foot, height)
        return all([lies_on(meeting_of(plate, tip, direction)) for direction in directions])

    def test_so_high_and_no_higher(self):
        draw = Draw(20)
        seen = {"none": 0, "some": 0, "edge": 0}
        for turn in range(400):
            plate = draw.plate((2, 9, E9)[turn % 3])
            foot = tuple(as_ratio(Fraction(draw.number(0, 3), 3)) for axis in range(2))
            directions = [draw.direction((2, 9, E9)[turn % 3]) for number in range(draw.number(1, 4))]
            directions = [direction for direction in directions if comes_from_ahead(plate, direction)]
            if turn % 9 == 0:
                directions = [tuple(draw.number(1, 9) * number for number in front_of(plate))]
            if not directions:
                continue
            told = staff_for(directions, foot, plate)
            if told is None:
                seen["none"] += 1
                for height in ((1, BIG), (1, 1), (BIG, 1), (HUGE, 1)):
                    self.assertTrue(self.within(plate, foot, height, directions))
                continue
            seen["some" if told[0] else "edge"] += 1
            if told[0]:
                self.assertTrue(self.within(plate, foot, told, directions))
                lower = as_ratio(Fraction(*told) / 3)
                self.assertTrue(self.within(plate, foot, lower, directions))
            else:
                self.assertEqual(told, (0, 1))
                self.assertTrue(set(foot) & {(0, 1), (1, 1)})
            beyond = as_ratio(Fraction(*told) + Fraction(1, HUGE))
            self.assertFalse(self.within(plate, foot, beyond, directions))
        self.assertGreater(min(seen.values()), 5)

    def test_the_foot_is_its_own_shadow_at_the_ground(self):
        for plate in PLATES:
            self.assertEqual(staff_tip(plate, MIDDLE, (0, 1)), point_of(plate, MIDDLE))


class TestRefused(unittest.TestCase):
    SUN = [(2, (1, 0, 1)), (4, (1, 0, 0)), (6, (0, 0, 1)), (8, (0, 3, -1)), (9999, (0, 0, -1))]

    def ask(self, *hours):
        return (greatest_staff, UNIT, MIDDLE, self.SUN, list(hours))

    def test_not_from_ahead(self):
        self.assertEqual(refused(self, NotLit, *self.ask(8)).hour, 8)
        self.assertEqual(refused(self, NotLit, *self.ask(9999)).hour, 9999)
        # Straight along the plate is not from ahead.
        self.assertEqual(refused(self, NotLit, *self.ask(4)).hour, 4)

    def test_the_first_in_the_order_handed_in(self):
        self.assertEqual(refused(self, NotLit, *self.ask(2, 8, 4)).hour, 8)
        self.assertEqual(refused(self, NotLit, *self.ask(4, 8)).hour, 4)
        self.assertEqual(refused(self, NotLit, *self.ask(6, 2, 6, 9999, 8, 2)).hour, 9999)
        self.assertEqual(refused(self, NotLit, *self.ask(8, 8)).hour, 8)

    def test_an_hour_that_the_sun_has_not(self):
        for hour in (0, 1, 3, 9998, 10000, -2, BIG, -HUGE):
            self.assertEqual(refused(self, NoHour, *self.ask(hour)).hour, hour)
        self.assertEqual(refused(self, NoHour, *self.ask(2, 7, 6, 5)).hour, 7)
        self.assertEqual(refused(self, NoHour, *self.ask(2, 5, 5, 7)).hour, 5)

    def test_it_comes_ahead_of_what_is_not_lit(self):
        self.assertEqual(refused(self, NoHour, *self.ask(4, 3)).hour, 3)
        self.assertEqual(refused(self, NoHour, *self.ask(3, 4)).hour, 3)
        self.assertEqual(refused(self, NoHour, *self.ask(8, 4, 2, 5, 3)).hour, 5)

    def test_it_is_refused_at_an_edge_too(self):
        for foot in (((0, 1), (0, 1)), ((1, 1), (1, 2))):
            self.assertEqual(refused(self, NotLit, greatest_staff, UNIT, foot, self.SUN, [2, 8]).hour, 8)
            self.assertEqual(refused(self, NoHour, greatest_staff, UNIT, foot, self.SUN, [2, 7, 8]).hour, 7)

    def test_hour_nought(self):
        sun = [(0, (0, 0, -1)), (1, (0, 0, 1))]
        self.assertEqual(refused(self, NotLit, greatest_staff, UNIT, MIDDLE, sun, [1, 0]).hour, 0)
        self.assertEqual(refused(self, NoHour, greatest_staff, UNIT, MIDDLE, sun[1:], [1, 0]).hour, 0)

    def test_nothing_handed_in_is_changed(self):
        for hours in ([2, 6], [2, 2], [4], [3, 4], [4, 3]):
            unchanged(self, greatest_staff, UNIT, MIDDLE, self.SUN, hours)
        unchanged(self, staff_tip, SLANTED, MIDDLE, (5, 3))


if __name__ == "__main__":
    unittest.main()
