"""Promises 2, 23 and 24: yards turned, mirrored, moved and made greater, and what is told behind it."""

import copy
import unittest

from dialyard.errors import NoYard
from dialyard.lights import lit_share
from dialyard.turnings import greater_yard, mirrored_yard, moved_yard, turned_yard
from dialyard.yards import look_at_yard, told_at
from helping import BIG, E9, FLOOR, HUGE, SOUTH_WALL, Draw, drawn_garden, drawn_yard, refused, unchanged

YARD = (
    [(0, (1, 2, 3)), (7, (-4, 5, -6)), (9999, (0, 0, 1))],
    [("gate", ((1, 2, 3), (4, 5, 6), (7, -8, 9))), ("hut", SOUTH_WALL)],
    [("face", FLOOR, (-1, 2, 3))],
)
EMPTY = ([(3, (1, 2, 3))], [], [])
ALL = (
    turned_yard, mirrored_yard, lambda yard: moved_yard(yard, (3, -20, 7)), lambda yard: greater_yard(yard, 7),
)


class TestTurned(unittest.TestCase):
    def test_ordinary(self):
        self.assertEqual(turned_yard(YARD), (
            [(0, (-2, 1, 3)), (7, (-5, -4, -6)), (9999, (0, 0, 1))],
            [("gate", ((-2, 1, 3), (-5, 4, 6), (8, 7, 9))), ("hut", ((-2, 1, 3), (0, 5, 0), (0, 0, 7)))],
            [("face", ((0, 0, 0), (0, 4, 0), (-2, 0, 0)), (-2, -1, 3))],
        ))

    def test_without_walls_and_dials(self):
        self.assertEqual(turned_yard(EMPTY), ([(3, (-2, 1, 3))], [], []))

    def test_four_times(self):
        draw = Draw(28)
        for yard in [YARD, EMPTY] + [drawn_yard(draw, most) for most in (3, 30, E9) for turn in range(4)]:
            turned = yard
            for turn in range(4):
                turned = turned_yard(turned)
                look_at_yard(turned)
                self.assertEqual(turned == yard, turn == 3)

    def test_numbers_at_the_bounds(self):
        plate = ((E9, -E9, E9), (-E9, E9, 0), (0, E9, -E9))
        yard = ([(1, (E9, -E9, E9))], [("far", plate)], [("dial", plate, (-E9, -E9, -E9))])
        look_at_yard(yard)
        turned = turned_yard(yard)
        look_at_yard(turned)
        self.assertEqual(turned[0], [(1, (E9, E9, E9))])
        self.assertEqual(turned[1], [("far", ((E9, E9, E9), (-E9, -E9, 0), (-E9, 0, -E9)))])
        self.assertEqual(turned[2][0][2], (E9, -E9, -E9))


class TestMirrored(unittest.TestCase):
    def test_ordinary(self):
        self.assertEqual(mirrored_yard(YARD), (
            [(0, (-1, 2, 3)), (7, (4, 5, -6)), (9999, (0, 0, 1))],
            [("gate", ((-1, 2, 3), (-7, -8, 9), (-4, 5, 6))), ("hut", ((-1, 2, 3), (0, 0, 7), (-5, 0, 0)))],
            [("face", ((0, 0, 0), (0, 2, 0), (-4, 0, 0)), (1, 2, 3))],
        ))

    def test_without_walls_and_dials(self):
        self.assertEqual(mirrored_yard(EMPTY), ([(3, (-1, 2, 3))], [], []))

    def test_twice(self):
        draw = Draw(29)
        for yard in [YARD, EMPTY] + [drawn_yard(draw, most) for most in (3, 30, E9) for turn in range(4)]:
            mirrored = mirrored_yard(yard)
            look_at_yard(mirrored)
            self.assertNotEqual(mirrored, yard)
            self.assertEqual(mirrored_yard(mirrored), yard)

    def test_numbers_at_the_bounds(self):
        plate = ((E9, -E9, E9), (-E9, E9, 0), (0, E9, -E9))
        yard = ([(1, (E9, -E9, E9))], [("far", plate)], [("dial", plate, (-E9, -E9, -E9))])
        mirrored = mirrored_yard(yard)
        look_at_yard(mirrored)
        self.assertEqual(mirrored[1], [("far", ((-E9, -E9, E9), (0, E9, -E9), (E9, E9, 0)))])
        self.assertEqual(mirrored[2][0][2], (E9, -E9, -E9))


class TestMoved(unittest.TestCase):
    def test_ordinary(self):
        self.assertEqual(moved_yard(YARD, (10, -20, 30)), (
            YARD[0],
            [("gate", ((11, -18, 33), (4, 5, 6), (7, -8, 9))), ("hut", ((11, -18, 33), (5, 0, 0), (0, 0, 7)))],
            [("face", ((10, -20, 30), (4, 0, 0), (0, 2, 0)), (9, -18, 33))],
        ))

    def test_moved_and_moved_back(self):
        for triple in ((0, 0, 0), (5, 0, 0), (-7, 123, E9 // 2), (1 - E9, E9 - 2, 3 - E9)):
            moved = moved_yard(YARD, triple)
            look_at_yard(moved)
            self.assertEqual(moved_yard(moved, tuple(-number for number in triple)), YARD)

    def test_to_the_bound_and_one_beyond(self):
        wall = ([(1, (0, 0, 1))], [("gate", ((5, 5, 5), (4, 0, 0), (0, 2, 0)))], [])
        dial = ([(1, (0, 0, 1))], [], [("face", ((5, 5, 5), (4, 0, 0), (0, 2, 0)), (5, 5, 5 + 3))])
        for axis in range(3):
            for sign in (1, -1):
                for yard, outermost in ((wall, 5), (dial, 8 if axis == 2 and sign == 1 else 5)):
                    most = sign * E9 - outermost
                    triple = tuple(most if k == axis else 0 for k in range(3))
                    look_at_yard(moved_yard(yard, triple))
                    beyond = tuple(most + sign if k == axis else 0 for k in range(3))
                    self.assertIsNone(refused(self, NoYard, moved_yard, yard, beyond).name)

    def test_the_tip_alone_beyond(self):
        yard = ([(1, (0, 0, 1))], [], [("face", FLOOR, (-50, 0, 1))])
        self.assertEqual(moved_yard(yard, (50 - E9, 0, 0))[2][0][2], (-E9, 0, 1))
        self.assertIsNone(refused(self, NoYard, moved_yard, yard, (49 - E9, 0, 0)).name)

    def test_without_walls_and_dials_nothing_moves(self):
        for triple in ((1, 2, 3), (E9, -E9, E9 + 1), (BIG, -HUGE, 0)):
            self.assertEqual(moved_yard(EMPTY, triple), EMPTY)

    def test_far_beyond(self):
        for number in (2 * E9, BIG, HUGE):
            for sign in (1, -1):
                self.assertIsNone(refused(self, NoYard, moved_yard, YARD, (0, sign * number, 0)).name)

    def test_sides_and_directions_may_be_at_the_bound(self):
        plate = ((0, 0, 0), (E9, 0, 0), (0, -E9, 0))
        yard = ([(1, (E9, -E9, E9))], [("far", plate)], [])
        self.assertEqual(moved_yard(yard, (5, -5, 5)), (yard[0], [("far", ((5, -5, 5),) + plate[1:])], []))


class TestGreater(unittest.TestCase):
    def test_ordinary(self):
        self.assertEqual(greater_yard(YARD, 3), (
            YARD[0],
            [("gate", ((3, 6, 9), (12, 15, 18), (21, -24, 27))), ("hut", ((3, 6, 9), (15, 0, 0), (0, 0, 21)))],
            [("face", ((0, 0, 0), (12, 0, 0), (0, 6, 0)), (-3, 6, 9))],
        ))

    def test_one_and_a_thousand(self):
        self.assertEqual(greater_yard(YARD, 1), YARD)
        told = greater_yard(YARD, 1000)
        look_at_yard(told)
        self.assertEqual(told[1][0], ("gate", ((1000, 2000, 3000), (4000, 5000, 6000), (7000, -8000, 9000))))
        self.assertEqual(told[2][0][2], (-1000, 2000, 3000))

    def test_step_by_step(self):
        self.assertEqual(greater_yard(greater_yard(YARD, 6), 7), greater_yard(YARD, 42))

    def test_to_the_bound_and_one_beyond(self):
        for sign in (1, -1):
            for great, told in ((10 ** 6, True), (10 ** 6 + 1, False)):
                number = sign * great
                for plate, tip in (
                    (((number, 0, 0), (1, 0, 0), (0, 1, 0)), (0, 0, 1)),
                    (((0, 0, 0), (1, 0, 0), (0, 1, number)), (0, 0, 1)),
                    (((0, 0, 0), (1, 0, number), (0, 1, 0)), (0, 0, 1)),
                    (FLOOR, (0, number, 1)),
                ):
                    yard = ([(1, (0, 0, 1))], [], [("face", plate, tip)])
                    look_at_yard(yard)
                    if told:
                        look_at_yard(greater_yard(yard, 1000))
                    else:
                        self.assertIsNone(refused(self, NoYard, greater_yard, yard, 1000).name)
                    look_at_yard(greater_yard(yard, 999))

    def test_one_above_and_one_below_the_bound(self):
        for number in (E9 // 2, -E9 // 2):
            step = 1 if number > 0 else -1
            yard = ([(1, (0, 0, 1))], [("gate", ((0, 0, number), (1, 0, 0), (0, 1, 0)))], [])
            self.assertEqual(greater_yard(yard, 2)[1][0][1][0], (0, 0, 2 * number))
            yard = ([(1, (0, 0, 1))], [("gate", ((0, 0, number + step), (1, 0, 0), (0, 1, 0)))], [])
            self.assertIsNone(refused(self, NoYard, greater_yard, yard, 2).name)

    def test_the_sun_stays(self):
        yard = ([(1, (E9, -E9, E9))], [("gate", SOUTH_WALL)], [])
        self.assertEqual(greater_yard(yard, 1000)[0], [(1, (E9, -E9, E9))])
        self.assertEqual(greater_yard(EMPTY, 1000), EMPTY)


def swapped(told):
    if told[0] in ("read", "off"):
        return (told[0], (told[1][1], told[1][0]))
    return told


class TestToldBehind(unittest.TestCase):
    def yards(self):
        draw = Draw(30)
        for turn in range(24):
            yield drawn_yard(draw, (3, 8, 10 ** 5)[turn % 3])
            yield drawn_garden(draw, draw.number(0, 4), 3, 6)

    def test_the_same_is_told(self):
        seen = {}
        for yard in self.yards():
            for change in ALL:
                changed = change(yard)
                look_at_yard(changed)
                self.assertEqual([hour for hour, direction in changed[0]], [hour for hour, direction in yard[0]])
                for hour, direction in yard[0]:
                    for name, plate, tip in yard[2]:
                        told = told_at(yard, hour, name)
                        seen[told[0]] = seen.get(told[0], 0) + 1
                        behind = told_at(changed, hour, name)
                        self.assertEqual(behind, swapped(told) if change is mirrored_yard else told)
        self.assertEqual(sorted(seen), ["behind", "down", "hidden", "off", "read"])
        self.assertGreater(min(seen.values()), 50)

    def test_the_same_share_is_lit(self):
        for number, yard in enumerate(self.yards()):
            if number % 4 < 2:
                for change in ALL:
                    hour = yard[0][1][0]
                    for name, plate, tip in yard[2]:
                        self.assertEqual(lit_share(change(yard), hour, name), lit_share(yard, hour, name))

    def test_great_numbers(self):
        draw = Draw(31)
        for turn in range(12):
            yard = drawn_yard(draw, E9)
            for change in (turned_yard, mirrored_yard):
                changed = change(yard)
                for hour, direction in yard[0]:
                    for name, plate, tip in yard[2]:
                        told = told_at(yard, hour, name)
                        behind = told_at(changed, hour, name)
                        self.assertEqual(behind, swapped(told) if change is mirrored_yard else told)


class TestAsked(unittest.TestCase):
    def test_nothing_handed_in_is_changed(self):
        for yard in (YARD, EMPTY):
            unchanged(self, turned_yard, yard)
            unchanged(self, mirrored_yard, yard)
            for triple in ((1, 2, 3), (E9, E9, E9)):
                unchanged(self, moved_yard, yard, triple)
            for many in (1, 7, 1000):
                unchanged(self, greater_yard, yard, many)
        far = (YARD[0], YARD[1] + [("far", ((0, 0, 10 ** 6 + 1), (1, 0, 0), (0, 1, 0)))], YARD[2])
        unchanged(self, greater_yard, far, 1000)

    def test_what_is_told_is_the_askers_own(self):
        for change in ALL + (lambda yard: moved_yard(yard, (0, 0, 0)), lambda yard: greater_yard(yard, 1)):
            for kept in (YARD, EMPTY):
                yard = copy.deepcopy(kept)
                told = change(yard)
                self.assertIsInstance(told, tuple)
                for things in told:
                    things.append("mine")
                    things[0] = "other"
                self.assertEqual(yard, kept)
                told = change(yard)
                again = copy.deepcopy(told)
                for things in yard:
                    things.clear()
                self.assertEqual(told, again)
                self.assertEqual(told, change(kept))


if __name__ == "__main__":
    unittest.main()
