"""Promises 2, 3, 26 and 27: the desk, the rows it is told, what it answers and what it refuses."""

import unittest
from fractions import Fraction

from dialyard.choosing import fewest_dials, fewest_gone
from dialyard.desk import Desk, written_number
from dialyard.errors import (
    NoBack, NoHour, NoName, NoRow, NoSay, NoSun, NotLit, NoYard, TooMany, YardError,
)
from dialyard.lights import lit_share
from dialyard.papers import read_yard, shown_yard
from dialyard.staffs import greatest_staff
from dialyard.tracks import bends_of, hours_at, track_of
from dialyard.yards import told_at
from helping import BIG, E9, HUGE, LETTERS, NO_WHOLES, Draw, drawn_garden, drawn_yard, refused

FACE = "dial face 0 0 0 10 0 0 0 10 0 5 5 4"
HUT = "wall hut 11 -50 0 0 100 0 0 0 10"
SUNS = ["sun 4 0 0 -1", "sun 8 1 0 1", "sun 12 0 0 1", "sun 13 -5 0 4", "sun 14 -3 -4 4"]
ROWS = SUNS + [HUT, FACE]
TEXT = "; ".join(ROWS)
FIRST = "sun 0 0 0 1"

FORTY = "9" * 40
# A row of each kind that is well written, with a yard of TEXT.
ASKING = (
    "shown", "at 12 face", "hours face 1/2,1/2", "track face", "bends face", "lit 12 face", "staff face 1/2,1/2 12",
    "dials 12", "walls 12 8",
)
CHANGING = (
    "yard " + TEXT, "turn", "mirror", "move 1 -2 3", "greater 2", "wall oak 0 0 9 1 0 0 0 1 0", FACE, "drop hut",
    "sun 9 1 1 1",
)


def desk_of(text=TEXT):
    desk = Desk()
    desk.say("yard " + text)
    return desk


def written(ratio):
    return str(Fraction(*ratio))


class DeskCase(unittest.TestCase):
    def told(self, desk, row, answer):
        self.assertEqual(desk.say(row), answer)

    def no(self, desk, told, row):
        """The row is refused with the told class, and the yard is shown behind it as ahead of it."""
        ahead = desk.say("shown")
        error = refused(self, told, desk.say, row)
        self.assertEqual(desk.say("shown"), ahead)
        return error

    def no_say(self, row, desk=None):
        self.no(desk or desk_of(), NoSay, row)


class TestAtFirst(DeskCase):
    def test_a_sun_of_one_hour_and_nothing_else(self):
        self.told(Desk(), "shown", FIRST)
        self.no(Desk(), NoBack, "back")

    def test_two_desks_do_not_touch(self):
        one, other = Desk(), Desk()
        self.told(one, FACE, "ok")
        self.told(one, "sun 5 1 1 1", "ok")
        self.told(other, "shown", FIRST)
        self.no(other, NoBack, "back")
        self.told(other, HUT, "ok")
        self.told(one, "shown", FIRST + "; sun 5 1 1 1; " + FACE)
        self.told(one, "back", "ok")
        self.told(other, "shown", FIRST + "; " + HUT)
        self.told(Desk(), "shown", FIRST)


class TestYardRows(DeskCase):
    def test_shown_and_yard(self):
        desk = Desk()
        self.told(desk, "yard " + TEXT, "ok")
        self.told(desk, "shown", TEXT)
        self.told(desk, "yard sun 7 1 2 3", "ok")
        self.told(desk, "shown", "sun 7 1 2 3")

    def test_what_is_read_to_no_yard(self):
        desk = desk_of()
        for text, row in (
            ("", 0), (" ", 0), (" " + FIRST, 0), ("x", 0), (HUT, 0), (FIRST + "; ", 1), ("; " + FIRST, 0), (FIRST + ";", 0),
            (FIRST + "; x", 1), (FIRST + "; " + FIRST, 1), (FIRST + ";  " + HUT, 1), (FIRST + "; " + HUT + "; " + HUT, 2),
            (FIRST + "; " + FACE + "; " + HUT, 2), (FIRST + " ; " + HUT, 0), (FIRST + ";" + HUT, 0), ("sun 0 0 0 0", 0),
            (FIRST + "; sun 1 0 0 " + FORTY, 1), ("sun 10000 0 0 1", 0), (FIRST + "\t", 0), ("; ", 0), ("; ; ", 0),
            (FIRST + "; ; " + HUT, 1), ("shown", 0), ("yard " + FIRST, 0),
        ):
            self.assertEqual(self.no(desk, NoRow, "yard " + text).row, row, text)

    def test_a_row_has_no_line_feeds(self):
        for row in (
            "yard " + FIRST + "\n" + HUT, "yard " + FIRST + "\n", "yard \n" + FIRST, "shown\n", "\nshown", "turn\n", "\n",
            "at 12\nface", "yard\n" + FIRST, "yard " + FIRST + "; \n",
        ):
            self.no_say(row)

    def test_turn_mirror_move_greater(self):
        desk = desk_of("sun 3 1 2 5; wall gate 1 2 3 4 5 6 7 -8 9; dial face 0 0 0 4 0 0 0 2 0 -1 2 3")
        self.told(desk, "turn", "ok")
        self.told(desk, "shown", "sun 3 -2 1 5; wall gate -2 1 3 -5 4 6 8 7 9; dial face 0 0 0 0 4 0 -2 0 0 -2 -1 3")
        self.told(desk, "back", "ok")
        self.told(desk, "mirror", "ok")
        self.told(desk, "shown", "sun 3 -1 2 5; wall gate -1 2 3 -7 -8 9 -4 5 6; dial face 0 0 0 0 2 0 -4 0 0 1 2 3")
        self.told(desk, "back", "ok")
        self.told(desk, "move 10 -20 0", "ok")
        self.told(desk, "shown", "sun 3 1 2 5; wall gate 11 -18 3 4 5 6 7 -8 9; dial face 10 -20 0 4 0 0 0 2 0 9 -18 3")
        self.told(desk, "back", "ok")
        self.told(desk, "greater 3", "ok")
        self.told(desk, "shown", "sun 3 1 2 5; wall gate 3 6 9 12 15 18 21 -24 27; dial face 0 0 0 12 0 0 0 6 0 -3 6 9")

    def test_move_beyond_the_bounds(self):
        desk = desk_of()
        self.told(desk, f"move 0 0 {E9 - 4}", "ok")
        self.assertIsNone(self.no(desk, NoYard, "move 0 0 1").name)
        self.told(desk, "back", "ok")
        for number in (E9 + 50, -E9 - 1, 10 ** 39, FORTY, "-" + FORTY):
            self.assertIsNone(self.no(desk, NoYard, f"move 0 {number} 0").name)
        empty = Desk()
        self.told(empty, f"move {FORTY} 0 -{FORTY}", "ok")
        self.told(empty, "shown", FIRST)

    def test_greater(self):
        desk = desk_of()
        for many in (1, 2, 999, 1000):
            self.told(desk, f"greater {many}", "ok")
            self.told(desk, "back", "ok")
        for many in ("0", "1001", "-1", "-0", "01", "+1", "1.0", "1/2", "x", "", "1000000", FORTY, "1 1", "-1000"):
            self.no_say("greater " + many, desk)
        self.told(desk, "greater 1000", "ok")
        self.told(desk, "greater 1000", "ok")
        self.assertIsNone(self.no(desk, NoYard, "greater 1000").name)
        self.told(desk, "greater 10", "ok")
        self.assertIsNone(self.no(desk, NoYard, "greater 2").name)


class TestThings(DeskCase):
    def test_walls_and_dials_come_behind_the_others(self):
        desk = Desk()
        for row in (FACE, HUT, "wall ash 0 0 0 1 0 0 0 1 0", "dial a 0 0 0 1 0 0 0 1 0 0 0 1"):
            self.told(desk, row, "ok")
        self.told(desk, "shown", "; ".join([
            FIRST, HUT, "wall ash 0 0 0 1 0 0 0 1 0", FACE, "dial a 0 0 0 1 0 0 0 1 0 0 0 1",
        ]))

    def test_in_the_stead_of_one_that_stood(self):
        desk = desk_of(FIRST + "; wall a 0 0 0 1 0 0 0 1 0; wall b 0 0 0 1 0 0 0 1 0; wall c 0 0 0 1 0 0 0 1 0; "
                       "dial d 0 0 0 1 0 0 0 1 0 0 0 1; dial e 0 0 0 1 0 0 0 1 0 0 0 1")
        self.told(desk, "wall b 5 5 5 2 0 0 0 2 0", "ok")
        self.told(desk, "dial d 7 7 7 2 0 0 0 2 0 0 0 8", "ok")
        self.told(desk, "wall a 6 5 5 2 0 0 0 2 0", "ok")
        self.told(desk, "shown", FIRST + "; wall a 6 5 5 2 0 0 0 2 0; wall b 5 5 5 2 0 0 0 2 0; wall c 0 0 0 1 0 0 0 1 0; "
                  "dial d 7 7 7 2 0 0 0 2 0 0 0 8; dial e 0 0 0 1 0 0 0 1 0 0 0 1")

    def test_what_makes_no_yard(self):
        desk = desk_of()
        for row, name in (
            ("wall oak 0 0 0 1 0 0 2 0 0", "oak"), ("wall hut 0 0 0 1 0 0 2 0 0", "hut"), ("wall oak 0 0 0 0 0 0 0 0 0", "oak"),
            ("wall face 0 0 0 1 0 0 0 1 0", "face"), ("dial hut 0 0 0 1 0 0 0 1 0 0 0 1", "hut"),
            ("dial rose 0 0 0 1 0 0 0 1 0 0 0 0", "rose"), ("dial face 0 0 0 1 0 0 0 1 0 0 0 -1", "face"),
            (f"wall oak {E9 + 1} 0 0 1 0 0 0 1 0", "oak"), (f"wall oak 0 0 0 -{FORTY} 0 0 0 1 0", "oak"),
            (f"dial rose 0 0 0 1 0 0 0 1 0 0 0 {E9 + 1}", "rose"), ("dial face 0 0 0 1 0 0 2 0 0 0 0 1", "face"),
        ):
            self.assertEqual(self.no(desk, NoYard, row).name, name)
        self.told(desk, f"wall oak {E9} 0 {-E9} 1 0 0 0 1 0", "ok")
        self.told(desk, f"dial rose 0 0 0 1 0 0 0 1 0 0 0 {E9}", "ok")

    def test_a_twenty_first_one(self):
        desk = Desk()
        for k in range(20):
            self.told(desk, f"wall w{LETTERS[k]} 0 0 0 1 0 0 0 1 0", "ok")
            self.told(desk, f"dial d{LETTERS[k]} 0 0 0 1 0 0 0 1 0 0 0 1", "ok")
        self.assertIsNone(self.no(desk, NoYard, "wall more 0 0 0 1 0 0 0 1 0").name)
        self.assertIsNone(self.no(desk, NoYard, "dial more 0 0 0 1 0 0 0 1 0 0 0 1").name)
        self.told(desk, "wall wa 5 0 0 1 0 0 0 1 0", "ok")
        self.told(desk, "dial dt 5 0 0 1 0 0 0 1 0 0 0 1", "ok")
        self.told(desk, "drop wb", "ok")
        self.told(desk, "wall more 0 0 0 1 0 0 0 1 0", "ok")

    def test_drop(self):
        desk = desk_of()
        self.told(desk, "drop hut", "ok")
        self.told(desk, "shown", "; ".join(SUNS + [FACE]))
        self.no(desk, NoName, "drop hut")
        self.no(desk, NoName, "drop other")
        self.told(desk, "drop face", "ok")
        self.told(desk, "shown", "; ".join(SUNS))
        self.no(desk, NoName, "drop face")

    def test_drop_leaves_the_others_in_their_order(self):
        desk = desk_of(FIRST + "; wall a 0 0 0 1 0 0 0 1 0; wall b 0 0 0 1 0 0 0 1 0; wall c 0 0 0 1 0 0 0 1 0")
        self.told(desk, "drop b", "ok")
        self.told(desk, "wall b 0 0 0 1 0 0 0 1 0", "ok")
        self.told(desk, "shown", FIRST + "; wall a 0 0 0 1 0 0 0 1 0; wall c 0 0 0 1 0 0 0 1 0; wall b 0 0 0 1 0 0 0 1 0")

    def test_sun(self):
        desk = Desk()
        for row in ("sun 9 1 2 3", "sun 5 -1 -2 -3", "sun 9999 0 0 1", "sun 7 7 7 7"):
            self.told(desk, row, "ok")
        self.told(desk, "shown", FIRST + "; sun 5 -1 -2 -3; sun 7 7 7 7; sun 9 1 2 3; sun 9999 0 0 1")
        self.told(desk, "sun 7 1 1 1", "ok")
        self.told(desk, f"sun 0 {E9} {-E9} 0", "ok")
        self.told(desk, "shown", f"sun 0 {E9} {-E9} 0; sun 5 -1 -2 -3; sun 7 1 1 1; sun 9 1 2 3; sun 9999 0 0 1")

    def test_a_sun_that_is_none(self):
        desk = desk_of()
        for row, at in (
            ("sun 8 0 0 0", 1), ("sun 9 0 0 0", 2), ("sun 0 0 0 0", 0), ("sun 9999 0 0 0", 5), (f"sun 4 0 0 {E9 + 1}", 0),
            (f"sun 13 -{FORTY} 0 1", 3),
        ):
            self.assertEqual(self.no(desk, NoSun, row).at, at)

    def test_the_eighty_first_hour(self):
        desk = Desk()
        for hour in range(1, 80):
            self.told(desk, f"sun {2 * hour} 0 0 1", "ok")
        self.assertIsNone(self.no(desk, NoSun, "sun 3 0 0 1").at)
        self.assertIsNone(self.no(desk, NoSun, "sun 9999 0 0 0").at)
        self.told(desk, "sun 4 1 1 1", "ok")


class TestBack(DeskCase):
    def test_behind_each_kind_of_change(self):
        for row in CHANGING:
            desk = desk_of()
            self.told(desk, row, "ok")
            behind = desk.say("shown")
            self.assertEqual(behind == TEXT, row in ("yard " + TEXT, FACE))
            self.told(desk, "back", "ok")
            self.told(desk, "shown", TEXT)
            self.told(desk, "back", "ok")
            self.told(desk, "shown", FIRST)
            self.no(desk, NoBack, "back")

    def test_several_times(self):
        desk = Desk()
        shown = [desk.say("shown")]
        for row in ("yard " + TEXT,) + CHANGING:
            self.told(desk, row, "ok")
            shown.append(desk.say("shown"))
        for text in reversed(shown[:-1]):
            self.told(desk, "back", "ok")
            self.told(desk, "shown", text)
        for turn in range(3):
            self.no(desk, NoBack, "back")

    def test_a_change_behind_which_the_yard_is_alike(self):
        desk = desk_of()
        for row in ("yard " + TEXT, "greater 1", "move 0 0 0", FACE, HUT, SUNS[0]):
            self.told(desk, row, "ok")
            self.told(desk, "shown", TEXT)
        for turn in range(6):
            self.told(desk, "back", "ok")
            self.told(desk, "shown", TEXT)
        self.told(desk, "back", "ok")
        self.told(desk, "shown", FIRST)

    def test_back_is_not_taken_back(self):
        desk = Desk()
        self.told(desk, "sun 1 0 0 1", "ok")
        self.told(desk, "sun 2 0 0 1", "ok")
        self.told(desk, "back", "ok")
        self.told(desk, "sun 3 0 0 1", "ok")
        self.told(desk, "shown", FIRST + "; sun 1 0 0 1; sun 3 0 0 1")
        self.told(desk, "back", "ok")
        self.told(desk, "shown", FIRST + "; sun 1 0 0 1")
        self.told(desk, "back", "ok")
        self.told(desk, "shown", FIRST)
        self.no(desk, NoBack, "back")

    def test_asking_and_what_is_refused_are_no_changes(self):
        desk = Desk()
        self.told(desk, "yard " + TEXT, "ok")
        for row in ASKING:
            desk.say(row)
        for row in ("drop other", "wall oak 0 0 0 0 0 0 0 0 0", "yard x", "sun 1 0 0 0", "greater 0", "move 0 0 2000000000", "x"):
            refused_with = None
            try:
                desk.say(row)
            except YardError as error:
                refused_with = error
            self.assertIsNotNone(refused_with)
        self.told(desk, "back", "ok")
        self.told(desk, "shown", FIRST)
        self.no(desk, NoBack, "back")


class TestAnswers(DeskCase):
    def test_at(self):
        desk = desk_of()
        self.told(desk, "at 12 face", "read 1/2,1/2")
        self.told(desk, "at 13 face", "read 1,1/2")
        self.told(desk, "at 14 face", "read 4/5,9/10")
        self.told(desk, "at 8 face", "hidden hut")
        self.told(desk, "at 4 face", "down")
        self.told(desk, "sun 15 -6 8 4", "ok")
        self.told(desk, "at 15 face", "off 11/10,-3/10")
        self.told(desk, "wall ash 0 0 9 9 0 0 0 10 0", "ok")
        self.told(desk, "wall zinc 0 0 8 90 0 0 0 10 0", "ok")
        self.told(desk, "at 8 face", "hidden hut zinc")
        self.told(desk, "at 12 face", "hidden ash zinc")
        self.told(desk, "dial back 0 0 0 0 1 0 1 0 0 0 0 -1", "ok")
        self.told(desk, "at 12 back", "behind")

    def test_hours(self):
        desk = desk_of()
        self.told(desk, "sun 20 0 0 9", "ok")
        self.told(desk, "hours face 1/2,1/2", "12 20")
        self.told(desk, "hours face 1,1/2", "13")
        self.told(desk, "hours face 0,0", "none")
        self.told(desk, "hours face -7/3,99", "none")
        self.told(desk, f"hours face {FORTY},-1/{FORTY}", "none")
        self.told(desk, "hours face 1/10,1/2", "none")
        self.told(desk, "drop hut", "ok")
        self.told(desk, "hours face 1/10,1/2", "8")
        self.told(desk, "sun 0 0 0 4", "ok")
        self.told(desk, "hours face 1/2,1/2", "0 12 20")

    def test_track_and_bends(self):
        desk = desk_of()
        self.told(desk, "track face", "12 1/2,1/2; 13 1,1/2; 14 4/5,9/10")
        self.told(desk, "bends face", "13")
        self.told(desk, "sun 15 -1 -1 4", "ok")
        self.told(desk, "bends face", "13 14")
        self.told(desk, "dial back 0 0 0 0 1 0 1 0 0 0 0 -1", "ok")
        self.told(desk, "track back", "none")
        self.told(desk, "bends back", "none")
        self.told(desk, "yard sun 0 0 0 1; " + FACE, "ok")
        self.told(desk, "track face", "0 1/2,1/2")
        self.told(desk, "bends face", "none")

    def test_lit(self):
        desk = desk_of()
        self.told(desk, "lit 12 face", "1")
        self.told(desk, "lit 4 face", "0")
        self.told(desk, "lit 8 face", "1/10")
        for k in range(7):
            self.told(desk, f"wall w{LETTERS[k]} 0 {k} 5 10 0 0 0 1 0", "ok")
            if k < 6:
                self.told(desk, "lit 12 face", written((9 - k, 10)))
        self.no(desk, TooMany, "lit 12 face")
        self.told(desk, "lit 4 face", "0")

    def test_staff(self):
        desk = desk_of()
        self.told(desk, "staff face 1/2,1/2 12", "any")
        # The front is 100 long, and at 8 the shadow goes as far as the staff is high.
        self.told(desk, "staff face 1/2,1/2 8", "1/20")
        self.told(desk, "staff face 1/2,1/2 8 12 8", "1/20")
        self.told(desk, "staff face 0,1/3 8", "0")
        self.told(desk, "staff face 1,1 12 12", "any")
        self.told(desk, "staff hut 1/2,1/2 8", "1/200")
        self.told(desk, "staff face 0,0 13", "2/25")
        self.told(desk, "yard sun 3 1 0 1; wall one 0 0 0 1 0 0 0 1 0", "ok")
        self.told(desk, "staff one 1,1 3", "1")

    def test_dials_and_walls(self):
        desk = desk_of()
        self.told(desk, "dials 12", "face")
        self.told(desk, "dials 12 13 12 14", "face")
        self.told(desk, "dials 12 8 4", "unread 8")
        self.told(desk, "walls 12", "none")
        self.told(desk, "walls 12 8", "hut")
        self.told(desk, "walls 12 4 8", "never 4")
        self.told(desk, "dial moon 100 0 0 1 0 0 0 1 0 102 0 2", "ok")
        self.told(desk, "dials 8", "moon")
        self.told(desk, "dials 12 8", "face moon")
        self.told(desk, "walls 12 8", "none")
        self.told(desk, "wall ash 90 -9 1 20 0 0 0 20 0", "ok")
        self.told(desk, "drop face", "ok")
        self.told(desk, "wall oak 90 -9 2 20 0 0 0 20 0", "ok")
        self.told(desk, "walls 8", "ash oak")
        self.told(Desk(), "dials 0", "unread 0")
        self.told(Desk(), "walls 0", "never 0")

    def test_hundreds_of_hours(self):
        desk = desk_of()
        self.told(desk, "dials" + " 12" * 900, "face")
        self.told(desk, "walls" + " 8" * 900, "hut")
        self.told(desk, "staff face 1/2,1/2" + " 8" * 900, "1/20")

    def test_numbers_of_thousands_of_figures_are_written(self):
        for number in (0, 7, -7, 10 ** 59, 10 ** 60 - 1, 10 ** 60, 10 ** 60 + 1, -10 ** 60, 10 ** 120, BIG, -HUGE):
            self.assertEqual(written_number(number), str(number))
        figures = "123456789" * 40
        self.assertEqual(written_number(int(figures)), figures)
        self.assertEqual(written_number(10 ** 5000), "1" + "0" * 5000)
        self.assertEqual(written_number(-(10 ** 9000) - 5), "-1" + "0" * 8999 + "5")


class TestRefused(DeskCase):
    def test_no_text(self):
        for thing in NO_WHOLES + (0, 7, b"shown", ["shown"], ("shown",)):
            if not isinstance(thing, str):
                self.no_say(thing)

    def test_rows_that_are_none(self):
        for row in (
            "", " ", "  ", "x", "Shown", "SHOWN", "show", "shownn", "yard", "yards", "Yard " + FIRST, "turns", "ok", "none",
            "turn left", "shown all", "back back", "back 1", "mirror x", "help", "\t", "shown\t", "shown;", "shown; shown",
            "wall", "dial", "sun", "drop", "at", "hours", "track", "bends", "lit", "staff", "dials", "walls", "move", "greater",
        ):
            self.no_say(row)

    def test_words_lacking_over_and_blanks(self):
        for row in ASKING + CHANGING[1:]:
            words = row.split(" ")
            repeats = words[0] in ("staff", "dials", "walls")
            least = {"staff": 4, "dials": 2, "walls": 2}.get(words[0], len(words))
            for many in range(1, least):
                self.no_say(" ".join(words[:many]))
            if not repeats:
                for more in (" 1", " a", " 1/2,1/2", " 12"):
                    self.no_say(row + more)
            for wrong in (
                " " + row, row + " ", row + "  ", "\t" + row, row + "\t", row.upper(), row.capitalize(), row + " \n", row + ";",
            ):
                self.no_say(wrong)
            for at in range(1, len(words)):
                for gap in ("  ", "\t", ", "):
                    self.no_say(" ".join(words[:at]) + gap + " ".join(words[at:]))
                # Of two hours without a blank between comes another hour.
                if at < least:
                    self.no_say(" ".join(words[:at]) + " ".join(words[at:]))

    def test_names_that_are_none(self):
        for name in ("", "Face", "FACE", "face1", "abcdefghi", "1", "a-b", "fa ce", "_", "*", "face,"):
            for row in (
                f"at 12 {name}", f"hours {name} 1/2,1/2", f"track {name}", f"bends {name}", f"lit 12 {name}",
                f"staff {name} 1/2,1/2 12", f"drop {name}", f"wall {name} 0 0 9 1 0 0 0 1 0",
                f"dial {name} 0 0 0 4 0 0 0 2 0 1 1 2",
            ):
                self.no_say(row)

    def test_hours_that_are_none(self):
        for hour in ("-1", "10000", "012", "-0", "+12", "x", "", "12.0", "1/2", FORTY, "9" * 41, "9" * 5000):
            for row in (
                f"at {hour} face", f"lit {hour} face", f"staff face 1/2,1/2 {hour}", f"staff face 1/2,1/2 12 {hour}",
                f"staff face 1/2,1/2 {hour} 12", f"dials {hour}", f"dials 12 {hour}", f"walls {hour}", f"walls {hour} 12",
                f"sun {hour} 0 0 1",
            ):
                self.no_say(row)

    def test_numbers_that_are_none(self):
        for number in ("-0", "+1", "01", "00", "x", "1.0", "1/1", "--1", "-", "", "1_0", "9" * 41, "-" + "9" * 41, "9" * 5000, "0" * 40):
            for row in (
                f"move {number} 0 0", f"move 0 0 {number}", f"sun 12 {number} 0 1", f"sun 12 0 0 {number}",
                f"wall oak {number} 0 9 1 0 0 0 1 0", f"wall oak 0 0 9 1 0 0 0 1 {number}",
                f"dial rose 0 0 0 4 0 0 0 2 0 1 1 {number}", f"dial rose {number} 0 0 4 0 0 0 2 0 1 1 2",
            ):
                self.no_say(row)

    def test_places_that_are_none(self):
        for place in (
            "1/2", "1/2,", ",1/2", ",", "1/2,1/2,1/2", "1/2,1/2,", "2/4,1/2", "1/2,2/4", "1/1,0", "0/1,0", "0/2,0", "3/1,0",
            "1/-2,0", "-1/-2,0", "1/0,0", "0/0,0", "1/,0", "/2,0", "/,0", "1//2,0", "1/2/3,0", "01/2,0", "1/02,0", "+1/2,0",
            "-0,0", "-0/2,0", "0.5,0.5", "x,y", "(1/2,1/2)", "1/2;1/2", "1/2/1/2", "1,0 ", "4/2,0", "-2/4,0", "1/+2,0",
            "9" * 41 + ",0", "1/" + "9" * 41 + ",0", "9" * 5000 + ",0", "1/2,-",
        ):
            self.no_say(f"hours face {place}")
            self.no_say(f"staff face {place} 12")

    def test_names_by_which_no_such_thing_stands(self):
        desk = desk_of()
        for row in (
            "at 12 hut", "at 12 other", "lit 12 hut", "lit 4 other", "hours hut 1/2,1/2", "hours other 0,0", "track hut",
            "track other", "bends hut", "bends other", "staff other 1/2,1/2 12", "drop other",
        ):
            self.no(desk, NoName, row)

    def test_hours_that_the_sun_has_not(self):
        desk = desk_of()
        for row, hour in (
            ("at 5 face", 5), ("at 9999 face", 9999), ("lit 0 face", 0), ("staff face 1/2,1/2 7", 7),
            ("staff face 1/2,1/2 12 7 6", 7), ("dials 9", 9), ("dials 12 8 9 7", 9), ("walls 9", 9), ("walls 4 9 7", 9),
        ):
            self.assertEqual(self.no(desk, NoHour, row).hour, hour)

    def test_not_lit(self):
        desk = desk_of()
        self.assertEqual(self.no(desk, NotLit, "staff face 1/2,1/2 12 4").hour, 4)
        self.assertEqual(self.no(desk, NotLit, "staff hut 1/2,1/2 8 13 12").hour, 13)
        self.assertEqual(self.no(desk, NotLit, "staff hut 0,0 12").hour, 12)

    def test_a_place_off_the_plate(self):
        desk = desk_of()
        for place in ("-1/2,1/2", "1/2,3/2", "2,0", "0,-1", f"1,{FORTY}", f"-1/{FORTY},0"):
            self.no(desk, NoSay, f"staff face {place} 12")
            self.no(desk, NoSay, f"staff hut {place} 8")
        self.told(desk, "staff face 1,0 12", "any")


class TestOrder(DeskCase):
    def test_what_is_no_row_comes_ahead_of_all_else(self):
        for row in (
            "at 5 Face", "at 5 other x", "at x other", "lit 99999 other", "hours other 2/4,0", "track other other",
            "staff other 1/2,1/2 x", "staff other 5,5 10000", "staff other 2/4,0 7", "dials 9 x", "walls 9 -1", "drop other x",
            "sun 8 0 0 0 0", "wall face 0 0 0 0 0 0 0 0", "move 0 0 2000000000 x", "greater 1001", "staff other 5,5",
        ):
            self.no_say(row)

    def test_then_word_by_word(self):
        desk = desk_of()
        self.assertEqual(self.no(desk, NoHour, "at 5 other").hour, 5)
        self.assertEqual(self.no(desk, NoHour, "at 5 hut").hour, 5)
        self.assertEqual(self.no(desk, NoHour, "lit 5 hut").hour, 5)
        self.no(desk, NoName, "hours other 5,5")
        self.no(desk, NoName, "staff other 5,5 7")
        self.no(desk, NoName, "staff other 1/2,1/2 7")
        self.no(desk, NoName, "staff other 5,5 4")
        self.no(desk, NoSay, "staff face 5,5 7")
        self.no(desk, NoSay, "staff face 5,5 4")
        self.assertEqual(self.no(desk, NoHour, "staff face 1/2,1/2 4 7").hour, 7)
        self.assertEqual(self.no(desk, NoHour, "staff face 1/2,1/2 7 4").hour, 7)
        self.assertEqual(self.no(desk, NoHour, "dials 4 7").hour, 7)
        self.assertEqual(self.no(desk, NoHour, "walls 4 7").hour, 7)

    def test_an_empty_yard(self):
        desk = Desk()
        self.no(desk, NoName, "at 0 face")
        self.assertEqual(self.no(desk, NoHour, "at 1 face").hour, 1)
        self.no(desk, NoName, "staff face 1/2,1/2 1")
        self.no(desk, NoName, "drop face")
        self.told(desk, "turn", "ok")
        self.told(desk, "mirror", "ok")
        self.told(desk, "greater 1000", "ok")
        self.told(desk, "shown", FIRST)


class TestMany(DeskCase):
    def test_the_desk_answers_as_the_stages_do(self):
        draw = Draw(34)
        for turn in range(40):
            yard = drawn_garden(draw, 3, 3, 6) if turn % 4 else drawn_yard(draw, (4, E9)[turn % 8 // 4])
            desk = desk_of(shown_yard(yard).replace("\n", "; "))
            self.told(desk, "shown", shown_yard(yard).replace("\n", "; "))
            for name, plate, tip in yard[2]:
                track = track_of(yard, name)
                rows = [f"{hour} {written(s)},{written(t)}" for hour, (s, t) in track]
                self.told(desk, f"track {name}", "; ".join(rows) or "none")
                self.told(desk, f"bends {name}", " ".join(map(str, bends_of(yard, name))) or "none")
                for hour, direction in yard[0]:
                    told = told_at(yard, hour, name)
                    text = told[0]
                    if told[0] in ("read", "off"):
                        place = ",".join(written(part) for part in told[1])
                        text += " " + place
                        hours = hours_at(yard, name, told[1])
                        self.told(desk, f"hours {name} {place}", " ".join(map(str, hours)) or "none")
                        self.assertEqual(hour in hours, told[0] == "read")
                    if told[0] == "hidden":
                        text = " ".join(["hidden"] + told[1])
                    self.told(desk, f"at {hour} {name}", text)
                    self.told(desk, f"lit {hour} {name}", written(lit_share(yard, hour, name)))
                    try:
                        height = greatest_staff(plate, ((1, 3), (1, 2)), yard[0], [hour])
                        self.told(desk, f"staff {name} 1/3,1/2 {hour}", "any" if height is None else written(height))
                    except NotLit:
                        self.no(desk, NotLit, f"staff {name} 1/3,1/2 {hour}")
            for number in range(4):
                hours = [yard[0][draw.number(0, len(yard[0]) - 1)][0] for hour in range(draw.number(1, 4))]
                for word, told in (("dials", fewest_dials(yard, hours)), ("walls", fewest_gone(yard, hours))):
                    answer = f"{told[0]} {told[1]}" if len(told) == 2 else " ".join(told[1]) or "none"
                    self.told(desk, " ".join([word] + list(map(str, hours))), answer)

    def test_the_yard_is_the_one_that_was_read(self):
        self.told(desk_of(), "shown", TEXT)
        self.assertEqual(shown_yard(read_yard("\n".join(ROWS))).replace("\n", "; "), TEXT)


if __name__ == "__main__":
    unittest.main()
