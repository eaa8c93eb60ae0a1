"""Promises 2, 18 and 19: the fewest dials by which hours are read, the fewest walls to go, and their papers."""

import copy
import itertools
import time
import unittest

from dialyard.choosing import fewest_dials, fewest_gone
from dialyard.errors import NoHour
from dialyard.yards import look_at_yard, told_at
from helping import BIG, HUGE, LETTERS, Draw, drawn_garden, refused, unchanged

# At the hour 10 k + j the sun stands so that a dial of the kind j alone is read.
LEANS = ((0, 0, 1), (2, 0, 1), (-2, 0, 1), (0, 2, 1), (0, -2, 1))


def wide_face(leans, x):
    """A face at x that is read at each of these leans, along one axis or the other."""
    spots = [(x - lean[0], -lean[1]) for lean in leans]
    least = [min(spot[axis] for spot in spots) for axis in range(2)]
    most = [max(spot[axis] for spot in spots) for axis in range(2)]
    side = (most[0] - least[0] + 1, 0, 0)
    other = (0, most[1] - least[1] + 1, 0)
    return ((least[0], least[1], 0), side, other), (x, 0, 1)


def dial(name, number, *leans):
    plate, tip = wide_face([LEANS[lean] for lean in leans], 100 * number)
    return (name, plate, tip)


SUN = [(10 * number, lean) for number, lean in enumerate(LEANS)] + [(90, (0, 0, -1))]


def yard_of(*reads, walls=()):
    """A yard of dials far apart from one another, each read at the told leans (one, or two beside one another)."""
    dials = [dial("d" + LETTERS[number], number, *leans) for number, leans in enumerate(reads)]
    return (list(SUN), list(walls), dials)


def roof_over(name, x, lean, height=5):
    """A wall that hides from this lean alone the middle of the dial at x."""
    point = (x - lean[0] + height * lean[0], -lean[1] + height * lean[1])
    return (name, ((point[0] - 1, point[1] - 1, height), (2, 0, 0), (0, 2, 0)))


class TestDials(unittest.TestCase):
    def test_the_yards_here_are_read_as_told(self):
        yard = yard_of((0,), (1,), (0, 1), (0, 2), (3,), (4, 0))
        look_at_yard(yard)
        reads = ((0,), (1,), (0, 1), (0, 2), (3,), (4, 0))
        for number, leans in enumerate(reads):
            told = [k for k in range(5) if told_at(yard, 10 * k, "d" + LETTERS[number])[0] == "read"]
            self.assertEqual(told, sorted(leans))

    def test_no_hours(self):
        for yard in (yard_of(), yard_of((0,)), yard_of((0,), (1,), (2,))):
            self.assertEqual(fewest_dials(yard, []), ("dials", [], []))

    def test_one_dial_needed(self):
        yard = yard_of((1,), (0,), (0, 1), (0, 1))
        self.assertEqual(fewest_dials(yard, [0]), ("dials", ["db"], [([], 0)]))
        self.assertEqual(fewest_dials(yard, [10]), ("dials", ["da"], [([], 10)]))
        self.assertEqual(fewest_dials(yard, [0, 10]), ("dials", ["dc"], [([], 0)]))
        self.assertEqual(fewest_dials(yard, [10, 0]), ("dials", ["dc"], [([], 10)]))

    def test_one_hour_again_and_again(self):
        yard = yard_of((1,), (0,), (0, 1))
        self.assertEqual(fewest_dials(yard, [0] * 200), ("dials", ["db"], [([], 0)]))
        self.assertEqual(fewest_dials(yard, [10, 0, 10, 10, 0]), ("dials", ["dc"], [([], 10)]))

    def test_several_needed(self):
        yard = yard_of((0,), (1,), (0, 2), (3,))
        self.assertEqual(
            fewest_dials(yard, [20, 0, 10]),
            ("dials", ["db", "dc"], [([0], 20), ([1], 20), ([2], 10), ([3], 20)]),
        )
        self.assertEqual(
            fewest_dials(yard, [0, 10, 20, 10]),
            ("dials", ["db", "dc"], [([0], 10), ([1], 0), ([2], 10), ([3], 0)]),
        )

    def test_all_needed(self):
        yard = yard_of((0,), (1,), (2,))
        self.assertEqual(
            fewest_dials(yard, [20, 10, 0]),
            ("dials", ["da", "db", "dc"], [([0, 1], 20), ([0, 2], 10), ([1, 2], 0)]),
        )
        yard = yard_of((0,), (1,), (2,), (3,), (4,))
        told = fewest_dials(yard, [0, 10, 20, 30, 40])
        self.assertEqual(told[1], ["da", "db", "dc", "dd", "de"])
        self.assertEqual(
            told[2],
            [([0, 1, 2, 3], 40), ([0, 1, 2, 4], 30), ([0, 1, 3, 4], 20), ([0, 2, 3, 4], 10), ([1, 2, 3, 4], 0)],
        )

    def test_of_several_fewest_lists_the_first(self):
        # By (0, 3), (1, 2) and (1, 3) it is read too.
        yard = yard_of((1,), (0,), (1,), (0, 2))
        self.assertEqual(fewest_dials(yard, [0, 10])[1], ["da", "db"])
        self.assertEqual(fewest_dials(yard, [20, 10, 0])[1], ["da", "dd"])
        # The names are no help: the order is the yard's.
        sun, walls, dials = yard_of((0,), (0,), (1,))
        dials = [("zinc",) + dials[0][1:], ("ash",) + dials[1][1:], ("moon",) + dials[2][1:]]
        self.assertEqual(fewest_dials((sun, walls, dials), [10, 0])[1], ["zinc", "moon"])

    def test_lists_stand_in_the_order_of_lists(self):
        yard = yard_of((0,), (1,), (2,), (0, 3), (4,))
        told = fewest_dials(yard, [40, 30, 10, 20])
        self.assertEqual(told[1], ["db", "dc", "dd", "de"])
        self.assertEqual([numbers for numbers, hour in told[2]], [list(x) for x in itertools.combinations(range(5), 3)])
        self.assertEqual(
            [hour for numbers, hour in told[2]], [40, 40, 30, 40, 30, 10, 40, 30, 20, 10]
        )

    def test_unread(self):
        yard = yard_of((0,), (1,))
        self.assertEqual(fewest_dials(yard, [20]), ("unread", 20))
        self.assertEqual(fewest_dials(yard, [0, 10, 30, 20]), ("unread", 30))
        self.assertEqual(fewest_dials(yard, [0, 20, 10, 30, 20]), ("unread", 20))
        self.assertEqual(fewest_dials(yard, [10, 90, 20]), ("unread", 90))

    def test_a_yard_of_no_dials(self):
        yard = yard_of(walls=[roof_over("oak", 0, LEANS[0])])
        self.assertEqual(fewest_dials(yard, [20, 0]), ("unread", 20))
        self.assertEqual(fewest_dials(yard, [0]), ("unread", 0))
        self.assertEqual(fewest_dials(yard, []), ("dials", [], []))

    def test_a_hidden_dial_is_not_read(self):
        yard = yard_of((0, 1), (0,), walls=[roof_over("oak", 0, LEANS[0])])
        self.assertEqual(told_at(yard, 0, "da")[0], "hidden")
        self.assertEqual(fewest_dials(yard, [0]), ("dials", ["db"], [([], 0)]))
        self.assertEqual(fewest_dials(yard, [0, 10]), ("dials", ["da", "db"], [([0], 0), ([1], 10)]))

    def test_all_dials_hide_also_those_that_are_not_chosen(self):
        sun, walls, dials = yard_of((0,), (1,))
        shade = ("shade",) + ((dials[0][1][0][:2] + (7,), (2, 0, 0), (0, 2, 0)), (0, 0, 9))
        self.assertEqual(fewest_dials((sun, walls, dials), [0])[1], ["da"])
        told = fewest_dials((sun, walls, dials + [shade]), [0])
        self.assertEqual(told, ("dials", ["shade"], [([], 0)]))


class TestWalls(unittest.TestCase):
    def test_none_to_go(self):
        yard = yard_of((0,), (1,))
        self.assertEqual(fewest_gone(yard, [0, 10]), ("walls", [], []))
        yard = yard_of((0,), (0, 1), walls=[roof_over("oak", 0, LEANS[0])])
        self.assertEqual(fewest_gone(yard, [0, 10, 0]), ("walls", [], []))

    def test_no_hours(self):
        roof = roof_over("oak", 0, LEANS[0])
        for yard in (yard_of(), yard_of((0,), walls=[roof]), yard_of(walls=[roof])):
            self.assertEqual(fewest_gone(yard, []), ("walls", [], []))

    def test_one_to_go(self):
        yard = yard_of((0, 1), walls=[roof_over("oak", 0, LEANS[1]), roof_over("ash", 0, LEANS[0])])
        self.assertEqual(fewest_gone(yard, [0]), ("walls", ["ash"], [([], 0)]))
        self.assertEqual(fewest_gone(yard, [10]), ("walls", ["oak"], [([], 10)]))
        self.assertEqual(
            fewest_gone(yard, [10, 0]), ("walls", ["oak", "ash"], [([0], 0), ([1], 10)])
        )
        self.assertEqual(
            fewest_gone(yard, [0, 10, 0]), ("walls", ["oak", "ash"], [([0], 0), ([1], 10)])
        )

    def test_several_above_one_dial(self):
        walls = [roof_over(name, 0, LEANS[0], height) for name, height in (("oak", 9), ("elm", 3), ("ash", 5))]
        yard = yard_of((0,), walls=walls)
        self.assertEqual(
            fewest_gone(yard, [0]),
            ("walls", ["oak", "elm", "ash"], [([0, 1], 0), ([0, 2], 0), ([1, 2], 0)]),
        )

    def test_of_several_dials_the_one_that_needs_the_fewest(self):
        walls = [roof_over("oak", 0, LEANS[0], 9), roof_over("elm", 0, LEANS[0], 5), roof_over("ash", 100, LEANS[0])]
        yard = yard_of((0,), (0,), walls=walls)
        self.assertEqual(fewest_gone(yard, [0]), ("walls", ["ash"], [([], 0)]))

    def test_of_several_fewest_lists_the_first(self):
        walls = [roof_over("pine", 300, LEANS[1])]
        walls += [roof_over(name, x, LEANS[0]) for name, x in (("zinc", 100), ("oak", 0), ("ash", 200))]
        yard = yard_of((0,), (0,), (0,), (1,), walls=walls)
        self.assertEqual(fewest_gone(yard, [0]), ("walls", ["zinc"], [([], 0)]))
        self.assertEqual(
            fewest_gone(yard, [0, 10]), ("walls", ["pine", "zinc"], [([0], 0), ([1], 10), ([2], 10), ([3], 10)])
        )
        self.assertEqual(
            fewest_gone(yard, [10, 0]), ("walls", ["pine", "zinc"], [([0], 0), ([1], 10), ([2], 10), ([3], 10)])
        )

    def test_never(self):
        yard = yard_of((0,), walls=[roof_over("oak", 0, LEANS[0])])
        self.assertEqual(fewest_gone(yard, [0, 30, 10]), ("never", 30))
        self.assertEqual(fewest_gone(yard, [10, 0, 30]), ("never", 10))
        self.assertEqual(fewest_gone(yard, [90]), ("never", 90))
        self.assertEqual(fewest_gone(yard, [0])[0], "walls")

    def test_yards_of_no_walls_and_of_no_dials(self):
        self.assertEqual(fewest_gone(yard_of((0,)), [0]), ("walls", [], []))
        self.assertEqual(fewest_gone(yard_of((0,)), [0, 10]), ("never", 10))
        self.assertEqual(fewest_gone(yard_of(walls=[roof_over("oak", 0, LEANS[0])]), [20, 0]), ("never", 20))
        self.assertEqual(fewest_gone(yard_of(), [0]), ("never", 0))

    def test_dials_stay_and_hide(self):
        sun, walls, dials = yard_of((0,), walls=[roof_over("oak", 0, LEANS[0])])
        shade = ("shade", ((-3, -3, 7), (9, 0, 0), (0, 9, 0)), (50, 50, 9))
        yard = (sun, walls, dials + [shade])
        self.assertEqual(told_at(yard, 0, "da"), ("hidden", ["oak", "shade"]))
        self.assertEqual(fewest_gone(yard, [0]), ("never", 0))
        self.assertEqual(fewest_gone((sun, walls, dials), [0]), ("walls", ["oak"], [([], 0)]))


def brute(kind, lacking, things, hours, is_read):
    """By the words: each choice is tried, the fewest first."""
    def lacks(chosen):
        return [hour for hour in hours if not is_read(hour, chosen)]

    whole = lacks(range(len(things)))
    if whole:
        return (lacking, whole[0])
    for size in range(len(things) + 1):
        for chosen in itertools.combinations(range(len(things)), size):
            if not lacks(chosen):
                fewer = itertools.combinations(range(len(things)), size - 1) if size else ()
                paper = [(list(numbers), lacks(numbers)[0]) for numbers in fewer]
                return (kind, [things[number][0] for number in chosen], paper)


def reads(yard, hour, names):
    return any(told_at(yard, hour, name)[0] == "read" for name in names)


def without(yard, gone):
    walls = [wall for number, wall in enumerate(yard[1]) if number not in gone]
    return (yard[0], walls, yard[2])


class TestMany(unittest.TestCase):
    def test_by_the_words(self):
        draw = Draw(21)
        seen = {}
        for turn in range(240):
            yard = drawn_garden(draw, draw.number(0, 4), draw.number(0, 5), 12)
            look_at_yard(yard)
            names = [dial[0] for dial in yard[2]]
            hours = [draw.number(0, 11) * 7 for number in range(draw.number(0, 3))]
            # Of most hours drawn so none would be read, so most are drawn of those that are, or would be.
            rest = yard if turn % 4 == 1 else without(yard, range(9))
            good = [hour for hour, direction in yard[0] if reads(rest, hour, names)]
            if good and turn % 4:
                hours = [good[draw.number(0, len(good) - 1)] for number in range(draw.number(2, 8))]
            told = fewest_dials(yard, hours)
            self.assertEqual(told, brute(
                "dials", "unread", yard[2], hours,
                lambda hour, chosen: reads(yard, hour, [names[number] for number in chosen]),
            ))
            gone = fewest_gone(yard, hours)
            self.assertEqual(gone, brute(
                "walls", "never", yard[1], hours,
                lambda hour, chosen: reads(without(yard, chosen), hour, names),
            ))
            for answer in (told, gone):
                key = (answer[0], len(answer[1]) if len(answer) == 3 else None)
                seen[key] = seen.get(key, 0) + 1
        for key in (("dials", 1), ("dials", 2), ("walls", 0), ("walls", 1), ("unread", None), ("never", None)):
            self.assertGreater(seen.get(key, 0), 4, key)
        self.assertGreater(seen.get(("walls", 2), 0), 0)

    def test_ten_dials_and_eight_walls(self):
        # Every dial and every wall is needed, and the hours are eighty.
        sun = [(hour, (hour % 10 - 4, hour // 10 - 3, 1)) for hour in range(80)]
        dials = []
        walls = []
        for number in range(10):
            # The tip stands two above the ground, so its shadow falls by twice the lean.
            x = 2000 * number
            face = ((x + 2 * (4 - number) - 1, -18, 0), (2, 0, 0), (0, 36, 0))
            dials.append(("d" + LETTERS[number], face, (x, 0, 2)))
            walls.append(("w" + LETTERS[number], ((x - 500, -500, 1), (1000, 0, 0), (0, 1000, 0))))
        walls = walls[:8]
        yard = (sun, walls, dials)
        look_at_yard(yard)
        hours = list(range(80))
        begun = time.perf_counter()
        gone = fewest_gone(yard, hours)
        self.assertEqual(gone[0], "walls")
        self.assertEqual(gone[1], [wall[0] for wall in walls])
        self.assertEqual(len(gone[2]), 8)
        told = fewest_dials((sun, [], dials), hours)
        self.assertEqual(told[1], [dial[0] for dial in dials])
        self.assertEqual(len(told[2]), 10)
        # Great enough for a slow machine, small enough to tell a search gone astray.
        self.assertLess(time.perf_counter() - begun, 60)


class TestAsked(unittest.TestCase):
    YARD = yard_of((0,), (1,), (0, 2), walls=[roof_over("oak", 0, LEANS[0]), roof_over("ash", 200, LEANS[0])])

    def test_an_hour_that_the_sun_has_not(self):
        for call in (fewest_dials, fewest_gone):
            for hour in (1, 5, 91, 9999, 10000, -10, BIG, -HUGE):
                self.assertEqual(refused(self, NoHour, call, self.YARD, [hour]).hour, hour)
                self.assertEqual(refused(self, NoHour, call, self.YARD, [0, hour, 10, 7]).hour, hour)
                self.assertEqual(refused(self, NoHour, call, self.YARD, [0, hour, hour]).hour, hour)

    def test_it_comes_ahead_of_unread_and_never(self):
        for call in (fewest_dials, fewest_gone):
            self.assertEqual(refused(self, NoHour, call, self.YARD, [30, 40, 7, 6]).hour, 7)
            self.assertEqual(refused(self, NoHour, call, self.YARD, [6, 30, 7]).hour, 6)
            self.assertEqual(refused(self, NoHour, call, ([(5, (0, 0, 1))], [], []), [5, 0]).hour, 0)

    def test_nothing_handed_in_is_changed(self):
        for hours in ([], [0, 10, 0, 20], [20, 30], [0, 7]):
            unchanged(self, fewest_dials, self.YARD, hours)
            unchanged(self, fewest_gone, self.YARD, hours)

    def test_what_is_told_is_the_askers_own(self):
        yard = copy.deepcopy(self.YARD)
        hours = [0, 10]
        for call in (fewest_dials, fewest_gone):
            told = call(yard, hours) if call is fewest_gone else call((yard[0], [], yard[2]), hours)
            kept = copy.deepcopy(told)
            for thing in [told[1], told[2]] + [numbers for numbers, hour in told[2]]:
                thing.append("mine")
            again = call(yard, hours) if call is fewest_gone else call((yard[0], [], yard[2]), hours)
            self.assertEqual(again, kept)
            self.assertEqual(yard, self.YARD)
            self.assertEqual(hours, [0, 10])
        self.assertEqual(fewest_dials((yard[0], [], []), []), ("dials", [], []))
        fewest_dials((yard[0], [], []), [])[2].append("mine")
        fewest_gone((yard[0], [], []), [])[1].append("mine")
        self.assertEqual(fewest_dials((yard[0], [], []), []), ("dials", [], []))
        self.assertEqual(fewest_gone((yard[0], [], []), []), ("walls", [], []))
        told = fewest_gone(yard, hours)
        kept = copy.deepcopy(told)
        hours.clear()
        yard[1].clear()
        self.assertEqual(told, kept)


if __name__ == "__main__":
    unittest.main()
