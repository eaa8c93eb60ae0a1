"""Promises 2, 21 and 22: what a plate shades of another, and the lit share of a dial's plate."""

import copy
import itertools
import unittest
from fractions import Fraction

from dialyard.errors import NoHour, NoName, TooMany
from dialyard.hiding import hides_point
from dialyard.lights import lit_share, shaded_by
from dialyard.parts import share_of
from dialyard.plates import comes_from_ahead, lies_on, point_of
from dialyard.yards import look_at_yard
from helping import (
    BIG, E9, HUGE, LETTERS, PLATES, SLANTED, Draw, as_ratio, drawn_garden, drawn_yard, is_part, met, part_of_pairs,
    places_of, refused, turned, unchanged,
)

FACE = ((0, 0, 0), (10, 0, 0), (0, 10, 0))
UP = (0, 0, 1)
WHOLE = places_of((0, 0), (1, 0), (1, 1), (0, 1))


def roof(left, low, right, high, height=5):
    """A flat plate over the ground from (left, low) to (right, high)."""
    return ((left, low, height), (right - left, 0, 0), (0, high - low, 0))


def tenths(*pairs):
    return places_of(*[(Fraction(s, 10), Fraction(t, 10)) for s, t in pairs])


def box(left, low, right, high):
    return tenths((left, low), (right, low), (right, high), (left, high))


def facings(plate):
    """The same plate begun at each of its corners, and facing either way."""
    corner, side, other = plate
    for two in ((side, other), (other, side)):
        for turns in range(4):
            yield (corner,) + two
            corner = tuple(corner[k] + two[0][k] for k in range(3))
            two = (two[1], tuple(-number for number in two[0]))


class TestShaded(unittest.TestCase):
    def look(self, other, told, direction=UP, plate=FACE):
        for facing in facings(other):
            self.assertEqual(shaded_by(plate, facing, direction), told)
        is_part(self, told)

    def test_all(self):
        self.look(roof(0, 0, 10, 10), WHOLE)
        self.look(roof(-9, -9, 99, 99), WHOLE)
        self.look(roof(-1, 0, 10, 11), WHOLE)
        self.look(roof(-9, 0, 1, 10), WHOLE, (-9, 0, 5))

    def test_a_part_within(self):
        self.look(roof(2, 3, 6, 4), box(2, 3, 6, 4))
        self.look(roof(2, 3, 6, 4), box(1, 5, 5, 6), (1, -2, 5))

    def test_a_part_at_an_edge_or_a_corner(self):
        self.look(roof(-3, 3, 6, 4), box(0, 3, 6, 4))
        self.look(roof(7, 8, 16, 14), box(7, 8, 10, 10))
        self.look(roof(7, -8, 16, 14), box(7, 0, 10, 10))
        self.look(roof(2, 3, 6, 4), box(0, 3, 1, 4), (5, 0, 5))

    def test_a_corner_cut_off(self):
        leaning = ((10, 5, 5), (5, 5, 0), (-5, 5, 0))
        self.look(leaning, tenths((5, 10), (10, 5), (10, 10)))
        self.look(((5, -5, 3), (10, 10, 0), (-10, 10, 0)), tenths((0, 0), (10, 0), (10, 10), (0, 10)))
        self.look(((5, 0, 3), (5, 5, 0), (-5, 5, 0)), tenths((0, 5), (5, 0), (10, 5), (5, 10)))

    def test_nothing(self):
        self.look(roof(12, 0, 20, 10), [])
        self.look(roof(-20, -20, -1, -1), [])
        self.look(roof(0, 0, 10, 10), [], (11, 0, 5))

    def test_what_touches_has_no_share(self):
        self.look(roof(10, 0, 20, 10), [])
        self.look(roof(-5, 3, 0, 4), [])
        self.look(roof(10, 10, 20, 20), [])
        self.look(roof(0, 0, 10, 10), [], (10, 0, 5))
        self.look(roof(0, 0, 10, 10), box(0, 0, 1, 10), (9, 0, 5))

    def test_through_the_plane(self):
        # It leans from (2, ., -4) to (8, ., 4): what is behind the plane hides nothing.
        leaning = ((2, 1, -4), (6, 0, 8), (0, 7, 0))
        self.look(leaning, box(5, 1, 8, 8))
        self.look(leaning, box(4, 1, 5, 8), (4, 0, 4))
        self.look(leaning, box(5, 1, 9, 8), (-1, 0, 4))
        # A corner alone sticks out.
        corner = ((5, 5, 2), (4, 0, -4), (0, 4, -4))
        self.look(corner, tenths((5, 5), (7, 5), (5, 7)))

    def test_standing_on_the_plane(self):
        # Upright, along the direction, and then with the sun from aside.
        screen = ((5, 2, 0), (0, 4, 0), (0, 0, 3))
        self.look(screen, [])
        self.look(screen, box(2, 2, 5, 6), (1, 0, 1))
        self.look(screen, box(5, 2, 8, 6), (-1, 0, 1))
        self.look(((5, 2, -3), (0, 4, 0), (0, 0, 6)), box(2, 2, 5, 6), (1, 0, 1))
        self.look(((5, 2, -3), (0, 4, 0), (0, 0, 3)), [], (1, 0, 1))

    def test_in_or_behind_its_plane(self):
        self.look(roof(2, 2, 8, 8, 0), [])
        self.look(roof(-9, -9, 99, 99, 0), [], (3, 2, 1))
        self.look(roof(2, 2, 8, 8, -1), [])
        self.look(((2, 2, -3), (6, 0, 3), (0, 6, 0)), [])
        self.look(((2, 2, -3), (6, 0, 3), (0, 6, 0)), [], (1, 1, 1))

    def test_with_itself(self):
        for plate in PLATES + (FACE,):
            for direction in ((1, 2, 3), (-3, 1, 2), (0, 0, 1), (-1, -1, -1), (0, -1, 0)):
                if comes_from_ahead(plate, direction):
                    self.assertEqual(shaded_by(plate, plate, direction), [])

    def test_along_the_direction(self):
        for other in (((5, -5, 5), (0, 20, 0), (0, 0, 5)), ((5, 5, -5), (3, 3, 0), (0, 0, 50)), ((2, 1, 1), (1, 1, 4), (0, 0, 1))):
            self.look(other, [])
        self.look(((2, 1, 1), (1, 0, 2), (0, 5, 0)), [], (1, 0, 2))

    def test_other_faces(self):
        # A wall that faces south, four wide and two high, and a sill above it.
        wall = ((0, 0, 0), (4, 0, 0), (0, 0, 2))
        sill = ((0, 0, 2), (4, 0, 0), (0, -1, 0))
        self.look(sill, places_of((0, Fraction(1, 2)), (1, Fraction(1, 2)), (1, 1), (0, 1)), (0, -1, 1), wall)
        self.look(sill, [], (0, -1, 0), wall)
        self.look(sill, [], (0, -1, -1), wall)

    def test_great_numbers(self):
        plate = ((-E9, -E9, -E9), (E9, 0, 0), (0, E9, 0))
        other = ((-1, -1, E9), (E9, 0, 0), (0, E9, 0))
        near = 1 - Fraction(1, E9)
        self.assertEqual(shaded_by(plate, other, (0, 0, E9)), places_of((near, near), (1, near), (1, 1), (near, 1)))
        self.assertEqual(shaded_by(plate, ((0, 0, E9), (E9, 0, 0), (0, E9, 0)), (0, 0, E9)), [])


def lines_of(plate, other, direction):
    """Rows (a, b, c) such that a place is shaded where each a s + b t + c is 0 or above, and how far it is to go."""
    found = [met(other, point_of(plate, place), direction) for place in places_of((0, 0), (1, 0), (0, 1))]
    if None in found:
        return None, None
    even = [(found[1][k] - found[0][k], found[2][k] - found[0][k], found[0][k]) for k in range(3)]
    rows = [(1, 0, 0), (0, 1, 0), even[0], even[1]]
    rows += [(-a, -b, 1 - c) for a, b, c in rows]
    return rows + [even[2]], even[2]


def shaded_by_the_words(plate, other, direction):
    rows, far = lines_of(plate, other, direction)
    if rows is None or not any(far):
        return []
    pairs = []
    for (a, b, c), (d, e, f) in itertools.combinations(rows, 2):
        if a * e != b * d:
            bottom = Fraction(a * e - b * d)
            pair = ((b * f - e * c) / bottom, (c * d - a * f) / bottom)
            if all(x * pair[0] + y * pair[1] + z >= 0 for x, y, z in rows):
                pairs.append(pair)
    return part_of_pairs(pairs)


class TestShadedMany(unittest.TestCase):
    def test_by_the_words(self):
        draw = Draw(24)
        seen = {}
        for turn in range(1200):
            most = (2, 4, 9, E9)[turn % 4]
            plate, other, direction = draw.plate(most), draw.plate(most), draw.direction(most)
            if not comes_from_ahead(plate, direction):
                plate = (plate[0], plate[2], plate[1])
            if not comes_from_ahead(plate, direction):
                continue
            told = shaded_by(plate, other, direction)
            is_part(self, told)
            self.assertEqual(told, shaded_by_the_words(plate, other, direction))
            seen[len(told)] = seen.get(len(told), 0) + 1
        self.assertGreater(seen[0], 100)
        for many in (3, 4, 5, 6):
            self.assertGreater(seen.get(many, 0), 4, many)

    def test_just_what_is_hidden(self):
        draw = Draw(25)
        hidden = 0
        for turn in range(250):
            plate, other, direction = draw.plate(5), draw.plate(9), draw.direction(4)
            if not comes_from_ahead(plate, direction):
                continue
            part = [(Fraction(*s), Fraction(*t)) for s, t in shaded_by(plate, other, direction)]
            if not part:
                continue
            for number in range(20):
                pair = (Fraction(draw.number(0, 24), 24), Fraction(draw.number(0, 24), 24))
                turns = [turned(part[k - 1], part[k], pair) for k in range(len(part))]
                hides = hides_point(other, point_of(plate, places_of(pair)[0]), direction)
                if min(turns) > 0:
                    self.assertIs(hides, True)
                if min(turns) < 0:
                    self.assertIs(hides, False)
                hidden += hides
            middle = [sum(corner[k] for corner in part) / len(part) for k in range(2)]
            for corner in part:
                inner = [(99 * corner[k] + middle[k]) / 100 for k in range(2)]
                outer = [(101 * corner[k] - middle[k]) / 100 for k in range(2)]
                self.assertTrue(hides_point(other, point_of(plate, places_of(inner)[0]), direction))
                beyond = places_of(outer)[0]
                self.assertFalse(lies_on(beyond) and hides_point(other, point_of(plate, beyond), direction))
        self.assertGreater(hidden, 50)


SUN = [(4, (0, 0, -1)), (5, (1, 0, 0)), (6, (-5, 0, 5)), (8, (0, 0, -7)), (12, UP), (15, (2, -1, 5))]


def yard_with(*plates, face=FACE, tip=(5, 5, 1)):
    walls = [("w" + LETTERS[number], plate) for number, plate in enumerate(plates)]
    return (list(SUN), walls, [("face", face, tip)])


class TestLit(unittest.TestCase):
    def lit(self, told, *plates, hour=12):
        for some in itertools.islice(itertools.permutations(plates), 30):
            yard = yard_with(*some)
            look_at_yard(yard)
            self.assertEqual(lit_share(yard, hour, "face"), told)

    def test_no_plate(self):
        self.lit((1, 1))
        self.lit((1, 1), hour=15)

    def test_plates_that_shade_nothing(self):
        self.lit((1, 1), roof(10, 0, 20, 10), roof(2, 2, 8, 8, -1), ((5, -5, 5), (0, 20, 0), (0, 0, 5)), FACE)

    def test_one_plate(self):
        self.lit((0, 1), roof(0, 0, 10, 10))
        self.lit((1, 2), roof(0, 0, 5, 10))
        self.lit((99, 100), roof(3, 4, 4, 5))
        self.lit((7, 8), ((10, 5, 5), (5, 5, 0), (-5, 5, 0)))
        self.lit((18, 25), roof(8, 0, 15, 7), hour=15)

    def test_apart_and_side_by_side(self):
        self.lit((1, 2), roof(0, 0, 3, 10), roof(5, 0, 7, 10, 2))
        self.lit((1, 2), roof(0, 0, 3, 10), roof(3, 0, 5, 10, 2))
        self.lit((0, 1), roof(0, 0, 5, 10), roof(5, 0, 10, 5, 2), roof(5, 5, 10, 10, 3))

    def test_plates_that_overlap(self):
        self.lit((1, 2), roof(0, 0, 4, 10), roof(2, 0, 5, 10, 2))
        self.lit((16, 25), roof(0, 0, 10, 2), roof(0, 0, 2, 10, 2))
        self.lit((6, 25), roof(0, 0, 5, 10), roof(0, 0, 10, 5, 2), roof(4, 4, 6, 6, 3))

    def test_one_within_another(self):
        self.lit((1, 2), roof(0, 0, 5, 10), roof(1, 1, 3, 3, 2))
        self.lit((1, 2), roof(0, 0, 5, 10), roof(1, 1, 3, 3, 2), roof(1, 1, 2, 2, 3), roof(0, 0, 5, 10, 9))

    def test_the_same_again(self):
        self.lit((1, 2), *[roof(0, 0, 5, 10)] * 6)

    def test_six_that_shade_and_seven(self):
        rows = [roof(0, k, 10, k + 1, k + 1) for k in range(7)]
        self.assertEqual(lit_share(yard_with(*rows[:6]), 12, "face"), (2, 5))
        refused(self, TooMany, lit_share, yard_with(*rows), 12, "face")
        refused(self, TooMany, lit_share, yard_with(*[rows[0]] * 7), 12, "face")
        refused(self, TooMany, lit_share, yard_with(*[roof(-1, -1, 11, 11)] * 20), 12, "face")

    def test_those_that_shade_nothing_do_not_count(self):
        rows = [roof(0, k, 10, k + 1, k + 1) for k in range(6)]
        idle = [roof(10, 0, 20, 10)] * 7 + [roof(0, 0, 10, 10, -1)] * 7
        self.assertEqual(lit_share(yard_with(*idle, *rows), 12, "face"), (2, 5))
        self.assertEqual(lit_share(yard_with(*idle), 12, "face"), (1, 1))

    def test_sun_down_or_from_behind_whatever_shades(self):
        many = [roof(-1, -1, 11, 11)] * 9
        for plates in ((), many[:1], many):
            for hour in (4, 5, 8):
                self.assertEqual(lit_share(yard_with(*plates), hour, "face"), (0, 1))
            turned_about = yard_with(*plates, face=(FACE[0], FACE[2], FACE[1]), tip=(5, 5, -1))
            for hour in (6, 12, 15):
                self.assertEqual(lit_share(turned_about, hour, "face"), (0, 1))
        # The sun is down, but stands ahead of the face.
        upright = yard_with(face=((0, 0, 0), (0, 0, 9), (0, 9, 0)), tip=(-3, 1, 1))
        self.assertEqual(lit_share(([(3, (-1, 0, 0))],) + upright[1:], 3, "face"), (0, 1))
        self.assertEqual(lit_share(([(3, (-1, 0, 1))],) + upright[1:], 3, "face"), (1, 1))
        self.assertEqual(lit_share(([(3, (0, 0, 1))],) + upright[1:], 3, "face"), (0, 1))

    def test_the_faces_of_other_dials_shade(self):
        sun, walls, dials = yard_with(roof(0, 0, 10, 2))
        yard = (sun, walls, [("moon", roof(0, 0, 5, 10, 3), (0, 0, 9))] + dials + [("rose", roof(0, 0, 1, 1, 9), (0, 0, 99))])
        look_at_yard(yard)
        self.assertEqual(lit_share(yard, 12, "face"), (2, 5))
        # Over the moon lie the wall's roof and the rose.
        self.assertEqual(lit_share(yard, 12, "moon"), (4, 5))
        self.assertEqual(lit_share(yard, 12, "rose"), (1, 1))

    def test_its_own_plate_does_not_shade_it(self):
        yard = yard_with(FACE, FACE)
        self.assertEqual(lit_share(yard, 12, "face"), (1, 1))

    def test_a_dial_that_is_not_read_may_be_lit(self):
        yard = yard_with(roof(4, 4, 6, 6), tip=(500, 5, 1))
        self.assertEqual(lit_share(yard, 12, "face"), (24, 25))

    def test_great_numbers(self):
        face = ((-E9, -E9, -E9), (E9, 0, 0), (0, E9, 0))
        sun = [(9999, (1, 1, E9))]
        plate = ((-1, -1, E9), (E9, 0, 0), (0, E9, 0))
        yard = (sun, [("far", plate)], [("face", face, (0, 0, E9))])
        look_at_yard(yard)
        # Twice E9 above, so thrown two to the west and two to the south of (-1, -1).
        self.assertEqual(lit_share(yard, 9999, "face"), as_ratio(1 - Fraction(3, E9) ** 2))


def shared_by_slabs(parts):
    """How much lies in one or more of the parts: cut upright at all corners and crossings, each slab by its middle."""
    parts = [[(Fraction(*s), Fraction(*t)) for s, t in part] for part in parts if part]
    edges = [(part[k - 1], part[k]) for part in parts for k in range(len(part))]
    cuts = {pair[0] for part in parts for pair in part}
    for (a, b), (c, d) in itertools.combinations(edges, 2):
        here, there = turned(c, d, a), turned(c, d, b)
        if here != there:
            cuts.add(a[0] + here / (here - there) * (b[0] - a[0]))
    cuts = sorted(cuts)
    share = Fraction(0)
    for left, right in zip(cuts, cuts[1:]):
        middle = (left + right) / 2
        share += (right - left) * length_at(parts, middle)
    return share


def length_at(parts, s):
    spans = []
    for part in parts:
        ends = []
        for k in range(len(part)):
            a, b = part[k - 1], part[k]
            if min(a[0], b[0]) < s < max(a[0], b[0]):
                ends.append(a[1] + (s - a[0]) / (b[0] - a[0]) * (b[1] - a[1]))
        if ends:
            spans.append((min(ends), max(ends)))
    length, reached = Fraction(0), None
    for low, high in sorted(spans):
        if reached is not None:
            low = max(low, reached)
        if high > low:
            length += high - low
        reached = high if reached is None else max(reached, high)
    return length


class TestLitMany(unittest.TestCase):
    def test_by_the_words(self):
        draw = Draw(26)
        seen = {}
        for turn in range(160):
            if turn % 4:
                yard = drawn_garden(draw, draw.number(0, 6), draw.number(1, 2), 4)
            else:
                yard = drawn_yard(draw, (3, 8, E9)[turn % 12 // 4])
            for hour, direction in yard[0]:
                for name, plate, tip in yard[2]:
                    others = [thing[1] for thing in yard[1] + yard[2] if thing[0] != name]
                    if direction[2] <= 0 or not comes_from_ahead(plate, direction):
                        self.assertEqual(lit_share(yard, hour, name), (0, 1))
                        continue
                    parts = [shaded_by_the_words(plate, other, direction) for other in others]
                    many = len([part for part in parts if part])
                    seen[many] = seen.get(many, 0) + 1
                    if many > 6:
                        refused(self, TooMany, lit_share, yard, hour, name)
                    else:
                        self.assertEqual(lit_share(yard, hour, name), as_ratio(1 - shared_by_slabs(parts)))
        for many in range(5):
            self.assertGreater(seen.get(many, 0), 5, many)

    def test_six_slanted_ones(self):
        draw = Draw(27)
        for turn in range(4):
            most = (5, E9 // 4)[turn % 2]
            plates = []
            while len(plates) < 6:
                plate = draw.plate(most)
                plate = (plate[0][:2] + (2 * most + plate[0][2],), plate[1], plate[2])
                plates.append(plate)
            face = ((-most, -most, 0), (2 * most, 0, 0), (0, 2 * most, 1))
            yard = ([(3, (1, -2, 9))], [("w" + LETTERS[k], plate) for k, plate in enumerate(plates)],
                    [("face", face, (0, 0, 3))])
            look_at_yard(yard)
            parts = [shaded_by_the_words(face, plate, (1, -2, 9)) for plate in plates]
            self.assertEqual(lit_share(yard, 3, "face"), as_ratio(1 - shared_by_slabs(parts)))


class TestAsked(unittest.TestCase):
    YARD = yard_with(roof(0, 0, 5, 10), roof(2, 2, 8, 8))

    def test_an_hour_that_the_sun_has_not(self):
        for hour in (0, 7, 9999, 10000, -5, BIG, -HUGE):
            self.assertEqual(refused(self, NoHour, lit_share, self.YARD, hour, "face").hour, hour)

    def test_a_name_by_which_no_dial_stands(self):
        for name in ("wa", "fac", "", "Face", "other"):
            for hour in (4, 5, 12):
                refused(self, NoName, lit_share, self.YARD, hour, name)
        refused(self, NoName, lit_share, yard_with(*[roof(-1, -1, 11, 11)] * 9), 12, "wa")

    def test_the_hour_comes_ahead_of_the_name(self):
        for name in ("wa", "other", ""):
            self.assertEqual(refused(self, NoHour, lit_share, self.YARD, 7, name).hour, 7)

    def test_nothing_handed_in_is_changed(self):
        for hour in (4, 5, 7, 12, 15):
            for name in ("face", "wa"):
                unchanged(self, lit_share, self.YARD, hour, name)
        unchanged(self, lit_share, yard_with(*[roof(-1, -1, 11, 11)] * 9), 12, "face")
        unchanged(self, shaded_by, FACE, SLANTED, (1, 2, 3))

    def test_what_is_told_is_the_askers_own(self):
        for other in (roof(-1, -1, 11, 11), roof(2, 2, 5, 5), roof(20, 0, 30, 9), FACE):
            told = shaded_by(FACE, other, UP)
            kept = copy.deepcopy(told)
            told.append("mine")
            self.assertEqual(shaded_by(FACE, other, UP), kept)
        self.assertEqual(share_of(shaded_by(FACE, roof(-1, -1, 11, 11), UP)), (1, 1))


if __name__ == "__main__":
    unittest.main()
