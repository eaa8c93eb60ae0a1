"""Promises 2, 12 and 13: yards, and what is told of a dial at an hour."""

import copy
import unittest

from dialyard.errors import NoHour, NoName, NoSun, NoYard
from dialyard.yards import look_at_yard, told_at
from helping import (
    BIG, E9, FAR, FLOOR, HUGE, LETTERS, NO_WHOLES, SLANTED, SOUTH_WALL, Draw, Thorn, drawn_yard, exchanged,
    refused, told_by_the_words, unchanged, with_number,
)

NO_NAMES = (
    "", "abcdefghi", "Gate", "gatE", "GATE", "gate1", "1", "g ate", " gate", "gate ", "ga_te", "ga-te", "gate\n", "\n",
    "\t", "`", "{", "@", "[", "a" * 12000,
)
SUN = [(6, (1, 0, 0)), (9, (1, -1, 1)), (12, (0, -2, 5)), (15, (-3, -1, 2)), (18, (-9, 0, -1))]
TIP = (1, 1, 2)
WALL = ("gate", SOUTH_WALL)
DIAL = ("face", FLOOR, TIP)


def many_walls(many):
    return [("w" + LETTERS[k], SOUTH_WALL) for k in range(many)]


def many_dials(many):
    return [("d" + LETTERS[k], FLOOR, TIP) for k in range(many)]


def no_yard(case, name, thing):
    told = refused(case, NoYard, look_at_yard, thing).name
    case.assertEqual(told, name)


def no_wall(case, name, wall):
    """The wall is refused first, in the midst, and last."""
    no_yard(case, name, (SUN, [wall], []))
    no_yard(case, name, (SUN, [WALL, wall, ("hut", SLANTED)], [DIAL]))
    no_yard(case, name, (SUN, [WALL, ("hut", SLANTED), wall], [None]))


def no_dial(case, name, dial):
    no_yard(case, name, (SUN, [], [dial]))
    no_yard(case, name, (SUN, [WALL], [DIAL, dial, ("moon", FLOOR, TIP)]))
    no_yard(case, name, (SUN, [], [DIAL, ("moon", FLOOR, TIP), dial]))


class TestYards(unittest.TestCase):
    def test_ordinary(self):
        for yard in (
            (SUN, [WALL], [DIAL]), (SUN, [], []), (SUN, [WALL], []), (SUN, [], [DIAL]),
            ([(0, (0, 0, 1))], [("a", SLANTED), ("b", SLANTED)], [("c", FLOOR, TIP), ("d", FLOOR, TIP)]),
        ):
            self.assertIsNone(look_at_yard(yard))

    def test_none_to_twenty_of_each(self):
        for walls in (0, 1, 19, 20):
            for dials in (0, 1, 19, 20):
                self.assertIsNone(look_at_yard((SUN, many_walls(walls), many_dials(dials))))

    def test_a_twenty_first_one(self):
        no_yard(self, None, (SUN, many_walls(21), []))
        no_yard(self, None, (SUN, many_walls(21), many_dials(20)))
        no_yard(self, None, (SUN, [], many_dials(21)))
        no_yard(self, None, (SUN, many_walls(20), many_dials(21)))
        no_yard(self, None, (SUN, many_walls(26), many_dials(26)))
        no_yard(self, None, (SUN, many_walls(20) + [("wa", FLOOR)], []))
        no_yard(self, None, (SUN, many_walls(20) + [("hut", None)], []))
        no_yard(self, None, (SUN, [], many_dials(20) + [("da", FLOOR, TIP)]))

    def test_one_ahead_of_the_twenty_first_comes_first(self):
        no_yard(self, "wb", (SUN, many_walls(2) + many_walls(26)[1:], []))
        no_yard(self, "hut", (SUN, many_walls(19) + [("hut", None)] + many_walls(26)[19:], []))
        no_yard(self, "hut", (SUN, [], many_dials(19) + [("hut", FLOOR, None)] + many_dials(26)[19:]))
        no_yard(self, None, (SUN, many_walls(20) + [("hut", None)], [("moon", None, None)]))

    def test_what_is_no_tuple_of_three(self):
        for thing in NO_WHOLES + (0, 1, BIG):
            if not isinstance(thing, tuple) or len(thing) != 3:
                no_yard(self, None, thing)
        for thing in (
            [SUN, [WALL], [DIAL]], {0: SUN, 1: [WALL], 2: [DIAL]}, (SUN,), (SUN, [WALL]), (SUN, [WALL], [DIAL], []),
            ([], [], [], []), (None, None), (None,),
        ):
            no_yard(self, None, thing)

    def test_the_sun_comes_ahead_of_walls_and_dials(self):
        for walls, dials in (([WALL], [DIAL]), ([], []), (None, None), ([("Gate", None)], 5)):
            for sun, at in (
                (None, None), ([], None), (tuple(SUN), None), ({}, None), (True, None), (SUN * 17, None),
                (SUN + SUN, 5), ([(6, (0, 0, 0))], 0), (SUN[:2] + [None], 2), (SUN[:1] + [(10000, (1, 2, 3))], 1),
            ):
                self.assertEqual(refused(self, NoSun, look_at_yard, (sun, walls, dials)).at, at)
        refused(self, NoSun, look_at_yard, (1, 2, 3))

    def test_walls_and_dials_that_are_no_list(self):
        for thing in NO_WHOLES + (0, (), (WALL,), {"gate": SOUTH_WALL}):
            if not isinstance(thing, list):
                no_yard(self, None, (SUN, thing, []))
                no_yard(self, None, (SUN, thing, [DIAL]))
                no_yard(self, None, (SUN, [], thing))
                no_yard(self, None, (SUN, [WALL], thing))

    def test_walls_come_ahead_of_dials(self):
        no_yard(self, "gate", (SUN, [("gate", None)], [("face", None, None)]))
        no_yard(self, "gate", (SUN, [("gate", None)], None))
        no_yard(self, None, (SUN, None, [("face", None, None)]))
        no_yard(self, "hut", (SUN, [WALL, ("hut", None), None], [None]))
        no_yard(self, "face", (SUN, [WALL], [("face", None, None), None]))
        no_yard(self, "moon", (SUN, [WALL], [DIAL, ("moon", FLOOR, None), DIAL]))

    def test_nothing_handed_in_is_changed(self):
        for thing in (
            (SUN, [WALL], [DIAL]), (SUN, many_walls(20), many_dials(20)), (SUN, many_walls(21), many_dials(20)),
            [SUN, [WALL], [DIAL]], (SUN, [WALL, WALL], [DIAL]), (SUN, [WALL], [list(DIAL)]), (SUN + SUN, [WALL], {}),
            (SUN, [["gate", [[1]]]], [{}]),
        ):
            unchanged(self, look_at_yard, thing)

    def test_looking_keeps_nothing(self):
        for turn in range(3):
            self.assertIsNone(look_at_yard((SUN, many_walls(20), many_dials(20))))
            no_yard(self, "gate", (SUN, [WALL, WALL], []))


class TestNames(unittest.TestCase):
    def test_of_one_to_eight_small_letters(self):
        for name in tuple(LETTERS) + ("az", "abcdefgh", "stuvwxyz", "zzzzzzzz"):
            self.assertIsNone(look_at_yard((SUN, [(name, SOUTH_WALL)], [])))
            self.assertIsNone(look_at_yard((SUN, [], [(name, FLOOR, TIP)])))

    def test_what_is_no_name(self):
        for name in NO_NAMES + ("\u00e9", "\u00df", "gat\u0435", "\u0661"):
            no_wall(self, None, (name, SOUTH_WALL))
            no_wall(self, None, (name, None))
            no_dial(self, None, (name, FLOOR, TIP))
            no_dial(self, None, (name, None, None))

    def test_things_of_other_kinds_in_the_stead_of_a_name(self):
        for thing in NO_WHOLES + (0, 7, b"gate", ["gate"], ("gate",)):
            if thing.__class__ is str and thing == "one":
                continue
            no_wall(self, None, (thing, SOUTH_WALL))
            no_dial(self, None, (thing, FLOOR, TIP))

    def test_one_name_twice(self):
        no_yard(self, "gate", (SUN, [WALL, WALL], []))
        no_yard(self, "gate", (SUN, [WALL, ("hut", FLOOR), ("gate", FLOOR)], [DIAL]))
        no_yard(self, "face", (SUN, [WALL], [DIAL, DIAL]))
        no_yard(self, "face", (SUN, [], [DIAL, ("moon", FLOOR, TIP), ("face", FLOOR, (3, 3, 3))]))
        no_yard(self, "gate", (SUN, [WALL], [("gate", FLOOR, TIP)]))
        no_yard(self, "gate", (SUN, [("hut", FLOOR), WALL], [DIAL, ("gate", FLOOR, TIP)]))
        no_yard(self, "da", (SUN, many_walls(19) + [("da", FLOOR)], many_dials(20)))

    def test_names_all_but_alike(self):
        walls = [("gate", FLOOR), ("gat", FLOOR), ("gatee", FLOOR), ("etag", FLOOR)]
        self.assertIsNone(look_at_yard((SUN, walls, [("gates", FLOOR, TIP)])))


class TestWallsAndDials(unittest.TestCase):
    def test_what_is_no_tuple_of_as_many(self):
        for thing in NO_WHOLES + (0, "gate", ["gate", SOUTH_WALL], {"gate": SOUTH_WALL}, SOUTH_WALL):
            no_wall(self, None, thing)
            no_dial(self, None, thing)
        for thing in ((), ("hall",), ("hall", FLOOR, TIP), ("hall", FLOOR, None), ("hall", FLOOR, TIP, 1)):
            no_wall(self, None, thing)
            if len(thing) != 3:
                no_dial(self, None, thing)
        no_dial(self, None, ("hall", FLOOR))
        no_dial(self, None, ["hall", FLOOR, TIP])
        no_dial(self, None, {0: "hall", 1: FLOOR, 2: TIP})

    def test_plates_that_are_none(self):
        for thing in NO_WHOLES + (
            0, ((0, 0, 0), (1, 2, 3), (2, 4, 6)), ((0, 0, 0), (0, 0, 0), (2, 4, 6)), list(FLOOR), FLOOR[:2],
            FLOOR + ((1, 2, 3),), ((0, 0, 0), [4, 0, 0], (0, 2, 0)), ((0, 0), (4, 0), (0, 2)),
        ):
            no_wall(self, "hall", ("hall", thing))
            no_dial(self, "hall", ("hall", thing, TIP))

    def test_numbers_of_plates_at_the_bounds_and_one_beyond(self):
        for which in range(3):
            for at in range(3):
                for number in (E9, -E9):
                    plate = with_number(SLANTED, which, at, number)
                    self.assertIsNone(look_at_yard((SUN, [("hall", plate)], [])))
                for number in (E9 + 1, -E9 - 1, HUGE, True, None, "1"):
                    plate = with_number(SLANTED, which, at, number)
                    no_wall(self, "hall", ("hall", plate))
                    no_dial(self, "hall", ("hall", plate, TIP))

    def test_tips_that_are_no_triples(self):
        for thing in NO_WHOLES + (0, [1, 1, 2], (1, 1), (1, 1, 2, 0), ((1, 1), (1, 1), (2, 1)), {0: 1, 1: 1, 2: 2}):
            if not isinstance(thing, tuple) or thing != (1, 2, 3):
                no_dial(self, "hall", ("hall", FLOOR, thing))
        for at in range(3):
            for thing in NO_WHOLES:
                no_dial(self, "hall", ("hall", FLOOR, exchanged(TIP, at, thing)))

    def test_numbers_of_tips_at_the_bounds_and_one_beyond(self):
        for tip in ((E9, E9, E9), (-E9, E9, 1), (E9, -E9, 1)):
            self.assertIsNone(look_at_yard((SUN, [], [("hall", FLOOR, tip)])))
        low = ((0, 0, -E9), (4, 0, 0), (0, 2, 0))
        self.assertIsNone(look_at_yard((SUN, [], [("hall", low, (0, 0, 1 - E9))])))
        high = ((0, 0, 0), (0, 2, 0), (4, 0, 0))
        self.assertIsNone(look_at_yard((SUN, [], [("hall", high, (0, 0, -E9))])))
        no_dial(self, "hall", ("hall", high, (0, 0, -E9 - 1)))
        for at in range(3):
            for number in (E9 + 1, BIG):
                no_dial(self, "hall", ("hall", FLOOR, exchanged(TIP, at, number)))
        for at in range(2):
            no_dial(self, "hall", ("hall", FLOOR, exchanged(TIP, at, -E9 - 1)))

    def test_tips_in_the_plane_and_behind_it(self):
        for tip in ((0, 0, 0), (4, 2, 0), (-9, 77, 0), (1, 1, -1), (E9, E9, -E9)):
            no_dial(self, "hall", ("hall", FLOOR, tip))
        no_dial(self, "hall", ("hall", SLANTED, SLANTED[0]))
        no_dial(self, "hall", ("hall", SLANTED, (0, 7, 4)))
        no_dial(self, "hall", ("hall", SOUTH_WALL, (1, 3, 3)))
        self.assertIsNone(look_at_yard((SUN, [], [("hall", SOUTH_WALL, (1, 1, 3))])))
        self.assertIsNone(look_at_yard((SUN, [], [("hall", FLOOR, (-9, 77, 1))])))

    def test_a_dial_may_face_anywhere_and_a_wall_may_stand_anywhere(self):
        self.assertIsNone(look_at_yard((SUN, [("a", FAR), ("b", FLOOR), ("c", FLOOR)], [("d", FLOOR, TIP)])))
        down = (FLOOR[0], FLOOR[2], FLOOR[1])
        self.assertIsNone(look_at_yard((SUN, [], [("d", down, (0, 0, -1))])))


# A face on the ground, ten by ten, with a tip four above its midst. Noon stands
# straight above it; in the morning the sun stands in the east.
FACE = ((0, 0, 0), (10, 0, 0), (0, 10, 0))
BACK = ((0, 0, 0), (0, 10, 0), (10, 0, 0))
PIN = (5, 5, 4)
HOURS = [
    (4, (5, 0, 0)), (5, (9, 0, 1)), (8, (1, 0, 1)), (12, (0, 0, 1)), (13, (-5, -5, 4)), (16, (-6, -5, 4)),
    (20, (-1, 0, -1)),
]
# A wall in the east, from the ground to ten high; one that ends at two high.
EAST = ((11, -50, 0), (0, 100, 0), (0, 0, 10))
LOW = ((11, -50, 0), (0, 100, 0), (0, 0, 2))


def roof(height, many=10):
    return ((0, 0, height), (many, 0, 0), (0, many, 0))


class TestToldAt(unittest.TestCase):
    def told(self, walls, hour, others=(), plate=FACE, tip=PIN):
        yard = (HOURS, list(walls), [("face", plate, tip)] + list(others))
        look_at_yard(yard)
        return told_at(yard, hour, "face")

    def test_read(self):
        self.assertEqual(self.told([], 12), ("read", ((1, 2), (1, 2))))
        self.assertEqual(self.told([], 8), ("read", ((1, 10), (1, 2))))

    def test_read_at_the_very_corner(self):
        self.assertEqual(self.told([], 13), ("read", ((1, 1), (1, 1))))

    def test_off(self):
        self.assertEqual(self.told([], 5), ("off", ((-31, 10), (1, 2))))
        self.assertEqual(self.told([], 16), ("off", ((11, 10), (1, 1))))

    def test_down(self):
        self.assertEqual(self.told([], 20), ("down",))

    def test_a_sun_just_on_the_ground_is_down(self):
        self.assertEqual(self.told([], 4), ("down",))
        east = ((0, 0, 0), (0, 10, 0), (0, 0, 10))
        self.assertEqual(self.told([], 4, plate=east, tip=(1, 5, 5)), ("down",))

    def test_behind(self):
        self.assertEqual(self.told([], 12, plate=BACK, tip=(5, 5, -4)), ("behind",))

    def test_a_direction_along_the_plate_is_behind(self):
        east = ((0, 0, 0), (0, 10, 0), (0, 0, 10))
        self.assertEqual(self.told([], 12, plate=east, tip=(1, 5, 5)), ("behind",))
        self.assertEqual(self.told([], 8, plate=east, tip=(1, 5, 5)), ("read", ((1, 2), (2, 5))))

    def test_hidden(self):
        self.assertEqual(self.told([("hut", EAST)], 8), ("hidden", ["hut"]))
        self.assertEqual(self.told([("roof", roof(7))], 12), ("hidden", ["roof"]))
        self.assertEqual(self.told([("hut", EAST)], 12), ("read", ((1, 2), (1, 2))))
        self.assertEqual(self.told([("hut", LOW)], 8), ("read", ((1, 10), (1, 2))))

    def test_it_is_the_shadows_point_that_is_hidden(self):
        # The line from the shadow goes by the tip; a plate between the two hides too.
        self.assertEqual(self.told([("leaf", roof(2))], 12), ("hidden", ["leaf"]))
        # One that is over another part of the face alone does not.
        self.assertEqual(self.told([("leaf", roof(2, 1))], 12), ("read", ((1, 2), (1, 2))))

    def test_hidden_by_an_edge_and_a_corner(self):
        self.assertEqual(self.told([("roof", roof(7, 5))], 12), ("hidden", ["roof"]))
        # The line from (1, 5, 0) towards (1, 0, 1) comes to (11, 5, 10), at the wall's top.
        self.assertEqual(self.told([("hut", EAST)], 8)[0], "hidden")
        lower = (EAST[0], EAST[1], (0, 0, 9))
        self.assertEqual(self.told([("hut", lower)], 8)[0], "read")

    def test_no_plate_in_or_behind_the_faces_plane_hides(self):
        flat = ((-50, -50, 0), (100, 0, 0), (0, 100, 0))
        under = ((-50, -50, -3), (100, 0, 0), (0, 100, 0))
        for hour in (8, 12):
            self.assertEqual(self.told([("flat", flat), ("under", under)], hour)[0], "read")

    def test_the_names_are_sorted_and_all_are_told(self):
        walls = [("zinc", roof(9)), ("oak", roof(8)), ("west", LOW), ("ash", roof(7))]
        others = [("moon", roof(11), (5, 5, 12)), ("elm", roof(10), (5, 5, 12)), ("yew", roof(-1), (0, 0, 0))]
        self.assertEqual(self.told(walls, 12, others), ("hidden", ["ash", "elm", "moon", "oak", "zinc"]))
        self.assertEqual(self.told(walls, 8, others), ("hidden", ["ash", "oak", "zinc"]))

    def test_the_face_of_another_dial_hides(self):
        others = [("moon", roof(9), (5, 5, 10))]
        self.assertEqual(self.told([], 12, others), ("hidden", ["moon"]))
        yard = (HOURS, [], [("face", FACE, PIN)] + others)
        self.assertEqual(told_at(yard, 12, "moon"), ("read", ((1, 2), (1, 2))))

    def test_never_the_dials_own_name(self):
        others = [("twin", FACE, (5, 5, 3)), ("moon", roof(9), (5, 5, 10))]
        for hour in (8, 12, 13):
            told = self.told([("hut", EAST)], hour, others)
            self.assertNotIn("face", told[1])
            self.assertNotIn("twin", told[1])
        self.assertEqual(self.told([], 12, others[:1]), ("read", ((1, 2), (1, 2))))

    def test_the_tips_of_others_hide_nothing(self):
        self.assertEqual(self.told([], 12, [("twin", FACE, (5, 5, 9))]), ("read", ((1, 2), (1, 2))))

    def test_the_first_that_is_so_is_told(self):
        # Over all of the yard, so that what lies off the face is hidden too.
        over = [("tent", ((-50, -50, 7), (100, 0, 0), (0, 100, 0)))]
        self.assertEqual(self.told(over, 20), ("down",))
        self.assertEqual(self.told(over, 20, plate=BACK, tip=(5, 5, -4)), ("down",))
        self.assertEqual(self.told(over, 12, plate=BACK, tip=(5, 5, -4)), ("behind",))
        self.assertEqual(self.told(over, 12, plate=BACK, tip=(50, 5, -4)), ("behind",))
        self.assertEqual(self.told(over, 16), ("off", ((11, 10), (1, 1))))
        self.assertEqual(self.told(over, 12), ("hidden", ["tent"]))

    def test_great_numbers(self):
        plate = ((-E9, -E9, -E9), (E9, 0, 0), (0, E9, 0))
        sun = [(0, (E9, E9, E9)), (1, (E9, E9 - 1, E9)), (2, (E9, E9 - 1, E9 - 1)), (9999, (-E9, E9, -E9))]
        near = ("near", ((1 - E9, 1 - E9, 1 - E9), (-E9, 0, 0), (0, -E9, 0)))
        yard = (sun, [], [("face", plate, (E9, E9, E9))])
        look_at_yard(yard)
        self.assertEqual(told_at(yard, 0, "face"), ("read", ((0, 1), (0, 1))))
        self.assertEqual(told_at(yard, 1, "face"), ("read", ((0, 1), (1, E9 // 2))))
        self.assertEqual(told_at(yard, 2, "face"), ("off", ((-2, E9 - 1), (0, 1))))
        self.assertEqual(told_at(yard, 9999, "face"), ("down",))
        yard = (sun, [near], [("face", plate, (E9, E9, E9))])
        self.assertEqual(told_at(yard, 0, "face"), ("hidden", ["near"]))
        self.assertEqual(told_at(yard, 1, "face"), ("read", ((0, 1), (1, E9 // 2))))


class TestAsked(unittest.TestCase):
    YARD = (HOURS, [("hut", EAST)], [("face", FACE, PIN), ("moon", roof(9), (5, 5, 10))])

    def test_an_hour_that_the_sun_has_not(self):
        for hour in (0, 3, 9, 21, 9999, 10000, -4, BIG, -HUGE):
            self.assertEqual(refused(self, NoHour, told_at, self.YARD, hour, "face").hour, hour)

    def test_a_name_by_which_no_dial_stands(self):
        for name in ("fac", "facee", "Face", "hut", "none", "a") + NO_NAMES:
            for hour, direction in HOURS:
                refused(self, NoName, told_at, self.YARD, hour, name)

    def test_the_hour_comes_ahead_of_the_name(self):
        for name in ("hut", "none", ""):
            self.assertEqual(refused(self, NoHour, told_at, self.YARD, 7, name).hour, 7)

    def test_things_of_other_kinds(self):
        yard = ([(0, (0, 0, 1)), (1, (0, 0, 1))], [], [("one", FACE, PIN)])
        for thing in NO_WHOLES:
            if not isinstance(thing, Thorn):
                self.assertIs(refused(self, NoHour, told_at, yard, thing, "one").hour, thing)
            if thing.__class__ is not str or thing != "one":
                refused(self, NoName, told_at, yard, 0, thing)

    def test_a_yard_without_dials(self):
        refused(self, NoName, told_at, (HOURS, [("hut", EAST)], []), 12, "hut")

    def test_nothing_handed_in_is_changed(self):
        for hour in (4, 5, 7, 8, 12, 20):
            for name in ("face", "moon", "hut"):
                unchanged(self, told_at, self.YARD, hour, name)

    def test_what_is_told_is_the_askers_own(self):
        yard = copy.deepcopy(self.YARD)
        told = told_at(yard, 8, "face")
        self.assertEqual(told, ("hidden", ["hut", "moon"]))
        told[1].append("mine")
        told[1][0] = "other"
        self.assertEqual(told_at(yard, 8, "face"), ("hidden", ["hut", "moon"]))
        self.assertEqual(yard, self.YARD)
        again = told_at(yard, 8, "face")
        yard[1].clear()
        self.assertEqual(again, ("hidden", ["hut", "moon"]))
        self.assertEqual(told_at(yard, 8, "face"), ("hidden", ["moon"]))


class TestMany(unittest.TestCase):
    def test_many(self):
        draw = Draw(13)
        seen = {}
        for turn in range(500):
            yard = drawn_yard(draw, (3, 8, 30, E9)[turn % 4])
            self.assertIsNone(look_at_yard(yard))
            for hour, direction in yard[0]:
                for name, plate, tip in yard[2]:
                    told = told_at(yard, hour, name)
                    self.assertIsInstance(told, tuple)
                    self.assertEqual(told, told_by_the_words(yard, hour, name))
                    seen[told[0]] = seen.get(told[0], 0) + 1
        self.assertEqual(sorted(seen), ["behind", "down", "hidden", "off", "read"])
        self.assertGreater(min(seen.values()), 20)


if __name__ == "__main__":
    unittest.main()
