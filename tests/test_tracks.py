"""Promises 2 and 14 to 16: hours read back, what lies on one line or in one plane, tracks and bends."""

import copy
import itertools
import unittest
from fractions import Fraction

from dialyard.errors import NoName
from dialyard.plates import front_of
from dialyard.shadows import shadow_of
from dialyard.tracks import bends_of, hours_at, in_one_plane, on_one_line, track_of
from helping import (
    BIG, E9, FAR, HUGE, PLATES, Draw, as_ratio, drawn_garden, drawn_yard, places_of, refused,
    told_by_the_words, unchanged,
)

# A direction (4 - x, 4 - y, 4) throws the tip's shadow to the point (x, y, 0).
FACE = ("face", ((0, 0, 0), (8, 0, 0), (0, 8, 0)), (4, 4, 4))
SHED = ("shed", ((4, 4, 9), (1, 0, 0), (0, 1, 0)))


def sun_to(spots):
    return [(10 + 3 * number, (4 - x, 4 - y, 4)) for number, (x, y) in enumerate(spots)]


def yard_to(spots, walls=()):
    return (sun_to(spots), list(walls), [FACE])


def place(x, y):
    return (as_ratio(Fraction(x, 8)), as_ratio(Fraction(y, 8)))


class TestHoursAt(unittest.TestCase):
    def test_ordinary(self):
        yard = yard_to([(1, 2), (3, 4), (5, 7)])
        self.assertEqual(hours_at(yard, "face", place(1, 2)), [10])
        self.assertEqual(hours_at(yard, "face", place(3, 4)), [13])
        self.assertEqual(hours_at(yard, "face", ((5, 8), (7, 8))), [16])

    def test_none(self):
        yard = yard_to([(1, 2), (3, 4), (5, 7)])
        self.assertEqual(hours_at(yard, "face", place(2, 1)), [])
        self.assertEqual(hours_at(yard, "face", ((BIG, BIG + 1), (1, 2))), [])
        self.assertEqual(hours_at(yard, "face", ((1, 8), (BIG, 4 * BIG + 1))), [])

    def test_several_hours_rising(self):
        yard = yard_to([(1, 2), (3, 4), (1, 2), (3, 4), (1, 2)])
        self.assertEqual(hours_at(yard, "face", place(1, 2)), [10, 16, 22])
        self.assertEqual(hours_at(yard, "face", place(3, 4)), [13, 19])

    def test_directions_so_many_times_another_one(self):
        sun = [(0, (3, 2, 4)), (5, (6, 4, 8)), (9, (3 * 10 ** 8, 2 * 10 ** 8, 4 * 10 ** 8)), (10, (3, 2, 5))]
        self.assertEqual(hours_at((sun, [], [FACE]), "face", place(1, 2)), [0, 5, 9])

    def test_what_is_off_is_not_read_there(self):
        yard = yard_to([(9, 2), (8, 8), (-1, 0)])
        self.assertEqual(hours_at(yard, "face", place(9, 2)), [])
        self.assertEqual(hours_at(yard, "face", place(8, 8)), [13])
        self.assertEqual(hours_at(yard, "face", place(-1, 0)), [])

    def test_what_is_hidden_or_down_is_not_read(self):
        spots = [(4, 4), (1, 2)]
        self.assertEqual(hours_at(yard_to(spots), "face", place(4, 4)), [10])
        self.assertEqual(hours_at(yard_to(spots, [SHED]), "face", place(4, 4)), [])
        self.assertEqual(hours_at(yard_to(spots, [SHED]), "face", place(1, 2)), [13])
        wall = ("face", ((0, 0, 0), (8, 0, 0), (0, 0, 8)), (4, -4, 4))
        self.assertEqual(hours_at(([(3, (0, -1, 0)), (4, (0, -8, 1))], [], [wall]), "face", place(4, 4)), [])
        self.assertEqual(hours_at(([(3, (0, -8, -1)), (4, (0, -8, 1))], [], [wall]), "face", ((1, 2), (7, 16))), [4])

    def test_hour_nought_and_the_last_one(self):
        sun = [(0, (0, 0, 1)), (9999, (0, 0, E9))]
        self.assertEqual(hours_at((sun, [], [FACE]), "face", place(4, 4)), [0, 9999])


class TestOnOneLine(unittest.TestCase):
    def both_ways(self, told, *pairs):
        """In each order, as the line hangs on none."""
        for order in itertools.permutations(places_of(*pairs)):
            self.assertIs(on_one_line(list(order)), told)

    def test_none_one_and_two(self):
        self.both_ways(True)
        self.both_ways(True, (1, 2))
        self.both_ways(True, (1, 2), (3, 5))
        self.both_ways(True, (1, 2), (1, 2))
        self.both_ways(True, (BIG, -HUGE), (Fraction(1, BIG), Fraction(-3, HUGE)))

    def test_the_same_place_again(self):
        self.both_ways(True, (1, 2), (1, 2), (1, 2))
        self.both_ways(True, (1, 2), (1, 2), (3, 5))
        self.both_ways(True, (1, 2), (1, 2), (3, 5), (3, 5))
        self.both_ways(False, (1, 2), (1, 2), (3, 5), (3, 6))

    def test_three_and_more_on_one_line(self):
        self.both_ways(True, (0, 0), (1, 1), (2, 2))
        self.both_ways(True, (0, 0), (0, 1), (0, -7))
        self.both_ways(True, (5, Fraction(1, 3)), (7, Fraction(1, 3)), (-2, Fraction(1, 3)))
        self.both_ways(True, (0, 0), (Fraction(1, 2), Fraction(1, 3)), (-3, -2), (6 * BIG, 4 * BIG))
        self.both_ways(True, (1, 0), (2, -1), (3, -2), (Fraction(1, 7), Fraction(6, 7)))

    def test_one_beside_it(self):
        self.both_ways(False, (0, 0), (1, 1), (2, 3))
        self.both_ways(False, (0, 0), (1, 0), (0, 1))
        self.both_ways(False, (0, 0), (1, 1), (2, 2), (3, 4))
        self.both_ways(False, (0, 0), (1, 1), (2, 2), (3 + Fraction(1, HUGE), 3))
        self.both_ways(False, (0, 0), (BIG, BIG), (2 * BIG, 2 * BIG + 1))
        self.both_ways(False, (0, 0), (-1, 1), (1, 1))

    def test_many(self):
        draw = Draw(15)
        told = {True: 0, False: 0}
        for turn in range(1200):
            pairs = [
                (Fraction(draw.number(-2, 2), draw.number(1, 2)), Fraction(draw.number(-2, 2), draw.number(1, 2)))
                for number in range(draw.number(3, 4))
            ]
            straight = all(
                (b[0] - a[0]) * (c[1] - a[1]) == (b[1] - a[1]) * (c[0] - a[0])
                for a, b, c in itertools.combinations(pairs, 3)
            )
            self.assertIs(on_one_line(places_of(*pairs)), straight)
            told[straight] += 1
        self.assertGreater(min(told.values()), 30)


def triple_product(one, other, third):
    return (
        one[0] * (other[1] * third[2] - other[2] * third[1])
        - one[1] * (other[0] * third[2] - other[2] * third[0])
        + one[2] * (other[0] * third[1] - other[1] * third[0])
    )


class TestInOnePlane(unittest.TestCase):
    def each_order(self, told, *directions):
        for order in itertools.permutations(directions):
            self.assertIs(in_one_plane(list(order)), told)

    def test_none_one_and_two(self):
        self.each_order(True)
        self.each_order(True, (0, 0, 1))
        self.each_order(True, (0, 0, 1), (3, -2, 5))
        self.each_order(True, (3, -2, 5), (3, -2, 5))

    def test_so_many_times_another_and_turned_about(self):
        self.each_order(True, (3, -2, 5), (6, -4, 10), (-3, 2, -5))
        self.each_order(True, (3, -2, 5), (-9, 6, -15), (1, 1, 1))
        self.each_order(True, (3, -2, 5), (-9, 6, -15), (1, 1, 1), (2, 2, 2))
        self.each_order(False, (3, -2, 5), (-9, 6, -15), (1, 1, 1), (1, 1, 2))

    def test_three_and_more(self):
        self.each_order(True, (1, 0, 0), (0, 1, 0), (1, 1, 0), (-5, 3, 0))
        self.each_order(True, (1, 0, 1), (0, 1, 1), (1, 1, 2), (1, -1, 0))
        self.each_order(False, (1, 0, 0), (0, 1, 0), (0, 0, 1))
        self.each_order(False, (1, 0, 1), (0, 1, 1), (1, 1, 2), (1, -1, 1))

    def test_great_numbers(self):
        self.each_order(True, (E9, E9, E9), (E9, -E9, E9), (E9, 0, E9), (1, E9, 1))
        self.each_order(False, (E9, E9, E9), (E9, -E9, E9), (E9, 0, E9 - 1))
        self.each_order(True, (BIG, 0, 1), (0, HUGE, 0), (BIG, HUGE, 1))
        self.each_order(False, (BIG, 0, 1), (0, HUGE, 0), (BIG, HUGE, 2))

    def test_many(self):
        draw = Draw(16)
        told = {True: 0, False: 0}
        for turn in range(600):
            directions = [draw.direction((1, 2, E9)[turn % 3]) for number in range(draw.number(3, 4))]
            flat = all(triple_product(*three) == 0 for three in itertools.combinations(directions, 3))
            self.assertIs(in_one_plane(directions), flat)
            told[flat] += 1
        self.assertGreater(min(told.values()), 30)


class TestBothTogether(unittest.TestCase):
    def test_shadows_lie_on_one_line_just_where_their_directions_lie_in_one_plane(self):
        draw = Draw(17)
        told = {True: 0, False: 0}
        for plate in PLATES:
            front = front_of(plate)
            tip = tuple(plate[0][k] + front[k] for k in range(3))
            for turn in range(120):
                directions = []
                while len(directions) < 3:
                    direction = draw.direction((2, 5)[turn % 2])
                    if sum(direction[k] * front[k] for k in range(3)) > 0:
                        directions.append(direction)
                shadows = [shadow_of(plate, tip, direction) for direction in directions]
                flat = in_one_plane(directions)
                self.assertIs(on_one_line(shadows), flat)
                told[flat] += 1
        self.assertGreater(min(told.values()), 20)


class TestTracks(unittest.TestCase):
    def look(self, spots, track, bends, walls=()):
        yard = yard_to(spots, walls)
        self.assertEqual(track_of(yard, "face"), track)
        self.assertEqual(bends_of(yard, "face"), bends)

    def test_none(self):
        self.look([(9, 9), (-1, 4)], [], [])

    def test_one(self):
        self.look([(9, 9), (1, 4)], [(13, place(1, 4))], [])

    def test_two(self):
        self.look([(3, 3), (9, 9), (1, 4)], [(10, place(3, 3)), (16, place(1, 4))], [])

    def test_three(self):
        self.look([(1, 1), (2, 2), (5, 5)], [(10, place(1, 1)), (13, place(2, 2)), (16, place(5, 5))], [])
        self.look([(1, 1), (2, 2), (5, 6)], [(10, place(1, 1)), (13, place(2, 2)), (16, place(5, 6))], [13])

    def test_hours_at_one_and_the_same_place(self):
        self.look([(1, 1)] * 3, [(hour, place(1, 1)) for hour in (10, 13, 16)], [])
        for spots in ([(1, 1), (1, 1), (2, 5)], [(2, 5), (1, 1), (1, 1)], [(1, 1), (2, 5), (1, 1)]):
            self.assertEqual(bends_of(yard_to(spots), "face"), [])
        # There and back again, and then aside.
        self.assertEqual(bends_of(yard_to([(1, 1), (2, 5), (1, 1), (4, 4)]), "face"), [16])

    def test_bends_of_many(self):
        spots = [(0, 0), (1, 1), (2, 2), (3, 2), (4, 2), (4, 5), (4, 8), (8, 8), (8, 8), (0, 8), (0, 7)]
        self.assertEqual(bends_of(yard_to(spots), "face"), [16, 22, 28, 37])

    def test_the_first_and_the_last_are_no_bends(self):
        spots = [(0, 0), (1, 5), (2, 2), (7, 3)]
        self.assertEqual(bends_of(yard_to(spots), "face"), [13, 16])

    def test_a_bend_stands_between_those_of_the_track(self):
        # The hour between is hidden, off or down, and so is none of the track.
        self.look(
            [(1, 1), (4, 4), (2, 2), (9, 0), (3, 3)],
            [(10, place(1, 1)), (16, place(2, 2)), (22, place(3, 3))], [], [SHED],
        )
        self.assertEqual(bends_of(yard_to([(1, 1), (4, 4), (2, 2), (5, 0), (6, 6)]), "face"), [16, 19])

    def test_great_numbers(self):
        dial = ("far", FAR, (E9, -E9, -E9))
        sun = [(4, (-1, 0, 1)), (5, (-E9, -E9, 1)), (6, (-E9, 1, 1 - E9)), (7, (-E9, 0, 1))]
        yard = (sun, [], [dial])
        told = [(hour, told_by_the_words(yard, hour, "far")) for hour, direction in sun]
        self.assertEqual(track_of(yard, "far"), [(hour, tell[1]) for hour, tell in told if tell[0] == "read"])

    def test_many(self):
        draw = Draw(18)
        bent = 0
        again = 0
        for turn in range(150):
            if turn % 3:
                yard = drawn_garden(draw, draw.number(0, 3), draw.number(1, 3), 12)
            else:
                yard = drawn_yard(draw, (3, 8, E9)[turn % 9 // 3])
            for name, plate, tip in yard[2]:
                told = [(hour, told_by_the_words(yard, hour, name)) for hour, direction in yard[0]]
                track = [(hour, tell[1]) for hour, tell in told if tell[0] == "read"]
                self.assertEqual(track_of(yard, name), track)
                bends = [
                    track[k][0] for k in range(1, len(track) - 1)
                    if not on_one_line([track[k - 1][1], track[k][1], track[k + 1][1]])
                ]
                self.assertEqual(bends_of(yard, name), bends)
                bent += len(bends)
                for hour, tell in told:
                    if len(tell) == 2 and tell[0] != "hidden":
                        hours = [other for other, there in track if there == tell[1]]
                        self.assertEqual(hours_at(yard, name, tell[1]), hours)
                        again += len(hours) > 1
        self.assertGreater(bent, 100)
        self.assertGreater(again, 30)


class TestAsked(unittest.TestCase):
    YARD = (sun_to([(1, 1), (4, 4), (2, 2), (9, 0), (3, 5), (2, 2)]), [SHED], [FACE])

    def test_a_name_by_which_no_dial_stands(self):
        for yard in (self.YARD, (self.YARD[0], [SHED], []), ([(0, (0, 0, -1))], [SHED], [FACE])):
            for name in ("shed", "fac", "facee", "", "Face", "other"):
                refused(self, NoName, track_of, yard, name)
                refused(self, NoName, bends_of, yard, name)
                refused(self, NoName, hours_at, yard, name, place(1, 1))
                refused(self, NoName, hours_at, yard, name, place(9, 9))

    def test_nothing_handed_in_is_changed(self):
        for name in ("face", "shed"):
            unchanged(self, track_of, self.YARD, name)
            unchanged(self, bends_of, self.YARD, name)
            unchanged(self, hours_at, self.YARD, name, place(2, 2))
        unchanged(self, on_one_line, places_of((1, 1), (1, 1), (2, 3), (0, 5)))
        unchanged(self, in_one_plane, [(1, 0, 0), (2, 0, 0), (0, 0, 1), (0, 1, 0)])

    def test_what_is_told_is_the_askers_own(self):
        yard = copy.deepcopy(self.YARD)
        asked = (
            lambda: track_of(yard, "face"), lambda: bends_of(yard, "face"),
            lambda: hours_at(yard, "face", place(2, 2)), lambda: hours_at(yard, "face", place(9, 9)),
        )
        for ask in asked:
            told = ask()
            kept = list(told)
            self.assertIsInstance(told, list)
            told.append("mine")
            told[0] = "other"
            self.assertEqual(ask(), kept)
            self.assertEqual(yard, self.YARD)
        told = [ask() for ask in asked]
        kept = copy.deepcopy(told)
        yard[0].clear()
        yard[2].clear()
        self.assertEqual(told, kept)

    def test_kinds(self):
        self.assertEqual(
            track_of(self.YARD, "face"),
            [(10, place(1, 1)), (16, place(2, 2)), (22, place(3, 5)), (25, place(2, 2))],
        )
        self.assertEqual(bends_of(self.YARD, "face"), [16])
        for entry in track_of(self.YARD, "face"):
            self.assertIsInstance(entry, tuple)


if __name__ == "__main__":
    unittest.main()
