"""Promises 2 and 25: yards written as rows, and read again."""

import copy
import re
import unittest

from dialyard.errors import NoRow, NoSun, NoYard
from dialyard.papers import read_yard, shown_yard
from dialyard.yards import look_at_yard
from helping import BIG, E9, FAR, HUGE, LETTERS, NO_WHOLES, Draw, drawn_garden, drawn_yard, refused, unchanged

SUN = "sun 0 1 -2 3"
LATER = "sun 12 0 0 1"
WALL = "wall gate 1 2 3 5 0 0 0 0 7"
DIAL = "dial face 0 0 0 4 0 0 0 2 0 1 1 2"
ROWS = [SUN, LATER, WALL, "wall hut -1 -2 -3 5 0 0 0 0 -7", DIAL, "dial moon 0 0 0 4 0 0 0 2 0 -9 -9 1"]
YARD = (
    [(0, (1, -2, 3)), (12, (0, 0, 1))],
    [("gate", ((1, 2, 3), (5, 0, 0), (0, 0, 7))), ("hut", ((-1, -2, -3), (5, 0, 0), (0, 0, -7)))],
    [("face", ((0, 0, 0), (4, 0, 0), (0, 2, 0)), (1, 1, 2)), ("moon", ((0, 0, 0), (4, 0, 0), (0, 2, 0)), (-9, -9, 1))],
)


def no_row(case, number, rows):
    text = rows if isinstance(rows, str) else "\n".join(rows)
    case.assertEqual(refused(case, NoRow, read_yard, text).row, number)


def in_each_place(case, row, like):
    """The row is refused wherever a row of its kind may come: in the stead of that one, first and last of them."""
    at = ROWS.index(like)
    no_row(case, at, ROWS[:at] + [row] + ROWS[at + 1:])
    no_row(case, at, ROWS[:at] + [row])
    no_row(case, at + 1, ROWS[:at + 1] + [row] + ROWS[at + 1:])


class TestWritten(unittest.TestCase):
    def test_ordinary(self):
        self.assertEqual(shown_yard(YARD), "\n".join(ROWS))
        self.assertEqual(shown_yard(([(5, (0, 0, -1))], [], [])), "sun 5 0 0 -1")
        self.assertEqual(shown_yard((YARD[0], [], YARD[2][:1])), "\n".join([SUN, LATER, DIAL]))
        self.assertEqual(shown_yard((YARD[0], YARD[1][:1], [])), "\n".join([SUN, LATER, WALL]))

    def test_the_yards_order_is_kept(self):
        walls = [("zinc", YARD[1][0][1]), ("ash", YARD[1][0][1])]
        told = shown_yard((YARD[0], walls, YARD[2][::-1]))
        self.assertEqual([row.split(" ")[1] for row in told.split("\n")], ["0", "12", "zinc", "ash", "moon", "face"])

    def test_great_numbers(self):
        yard = ([(9999, (E9, -E9, E9))], [("far", FAR)], [("dial", FAR, (-E9, -E9, -E9))])
        look_at_yard(yard)
        numbers = "1000000000 -1000000000 1000000000 -1000000000 1000000000 0 0 1000000000 -1000000000"
        self.assertEqual(shown_yard(yard), "\n".join([
            "sun 9999 1000000000 -1000000000 1000000000", "wall far " + numbers,
            "dial dial " + numbers + " -1000000000 -1000000000 -1000000000",
        ]))
        self.assertEqual(read_yard(shown_yard(yard)), yard)

    def test_read_again(self):
        draw = Draw(32)
        for turn in range(60):
            yard = drawn_yard(draw, (3, 30, E9)[turn % 3]) if turn % 2 else drawn_garden(draw, 5, 5, 9)
            text = shown_yard(yard)
            self.assertIsInstance(text, str)
            self.assertEqual(read_yard(text), yard)
            self.assertEqual(shown_yard(read_yard(text)), text)

    def test_a_full_yard(self):
        sun = [(125 * hour, (hour, -hour, 1)) for hour in range(80)]
        walls = [("w" + LETTERS[k], FAR) for k in range(20)]
        dials = [("d" + LETTERS[k], FAR, (-E9, -E9, -E9)) for k in range(20)]
        yard = (sun, walls, dials)
        look_at_yard(yard)
        self.assertEqual(read_yard(shown_yard(yard)), yard)


class TestRead(unittest.TestCase):
    def test_ordinary(self):
        told = read_yard("\n".join(ROWS))
        self.assertEqual(told, YARD)
        self.assertIsInstance(told, tuple)
        for things in told:
            self.assertIsInstance(things, list)
        self.assertEqual(read_yard(SUN), (YARD[0][:1], [], []))
        self.assertEqual(read_yard(SUN + "\n" + DIAL), (YARD[0][:1], [], YARD[2][:1]))
        self.assertEqual(read_yard(SUN + "\n" + WALL), (YARD[0][:1], YARD[1][:1], []))

    def test_no_text(self):
        for thing in NO_WHOLES:
            if not isinstance(thing, str):
                self.assertEqual(refused(self, NoRow, read_yard, thing).row, 0)
        for thing in (0, 5, b"sun 0 1 -2 3", [SUN], (SUN,), YARD):
            self.assertEqual(refused(self, NoRow, read_yard, thing).row, 0)

    def test_without_an_hour(self):
        for rows in ("", [WALL], [DIAL], [WALL, DIAL], [DIAL, SUN], [WALL, SUN, LATER], "\n", "\n" + SUN, "\n\n", " ", "sun"):
            no_row(self, 0, rows)

    def test_empty_rows(self):
        no_row(self, 1, SUN + "\n")
        no_row(self, 6, "\n".join(ROWS) + "\n")
        no_row(self, 6, "\n".join(ROWS) + "\n\n")
        no_row(self, 1, [SUN, "", LATER])
        no_row(self, 2, [SUN, LATER, "", WALL])

    def test_words_lacking_and_over(self):
        for like in (LATER, WALL, DIAL):
            words = like.split(" ")
            for many in range(1, len(words)):
                in_each_place(self, " ".join(words[:many]), like)
            for more in ("0", "1", "x", "1 2 3", "", "#"):
                in_each_place(self, like + " " + more, like)
            in_each_place(self, " ".join(words[:1] + words[2:]), like)

    def test_other_words(self):
        for like in (LATER, WALL, DIAL):
            kind, rest = like.split(" ", 1)
            for other in ("moon", "suns", "su", "SUN", "Wall", "DIAL", "walls", "", "0", "#", "yard", kind.upper(), kind + ":"):
                in_each_place(self, other + " " + rest, like)
        in_each_place(self, "sun" + WALL[4:], WALL)
        in_each_place(self, "wall" + DIAL[4:], DIAL)
        in_each_place(self, "dial" + WALL[4:], WALL)

    def test_blanks_and_tabs(self):
        for like in (LATER, WALL, DIAL):
            for row in (
                " " + like, like + " ", "  " + like, like + "  ", like.replace(" ", "  ", 1), like.replace(" ", "\t", 1),
                like.replace(" ", "\t"), "\t" + like, like + "\t", "  ".join(like.rsplit(" ", 1)), "\t".join(like.rsplit(" ", 1)),
                like.replace(" ", ", "), like + ";", like + ".",
            ):
                in_each_place(self, row, like)

    def test_numbers_that_are_none(self):
        words = (
            "-0", "+1", "+0", "00", "01", "-01", "007", "-", "--1", "1-", "- 1", "1.0", "1e3", "1_000", "0x1", "one", "x",
            "1/2", "", "1,", "'1'", "-00", "0-", "1 000", "(1)", "True", "None",
        )
        for like in (LATER, WALL, DIAL):
            parts = like.split(" ")
            for at in range(1 if like is LATER else 2, len(parts)):
                for word in words:
                    in_each_place(self, " ".join(parts[:at] + [word] + parts[at + 1:]), like)

    def test_numbers_beyond_the_bounds(self):
        for like in (LATER, WALL, DIAL):
            parts = like.split(" ")
            for at in range(2, len(parts)):
                for number in (E9 + 1, -E9 - 1, 10 * E9, 10 ** 39, BIG, -BIG, 10 ** 40, HUGE, -HUGE):
                    in_each_place(self, " ".join(parts[:at] + [str(number)] + parts[at + 1:]), like)

    def test_numbers_of_thousands_of_figures(self):
        for figures in ("9" * 4299, "1" * 5000, "-" + "7" * 11000, "0" * 9000):
            no_row(self, 0, "sun 0 0 0 " + figures)
            no_row(self, 0, "sun " + figures + " 0 0 1")
            no_row(self, 1, SUN + "\nwall gate 1 2 3 5 0 0 0 0 " + figures)
            no_row(self, 1, SUN + "\nwall " + figures + " 1 2 3 5 0 0 0 0 7")

    def test_numbers_at_the_bounds(self):
        for word in (str(E9), str(-E9)):
            self.assertEqual(read_yard("sun 0 0 0 " + word)[0], [(0, (0, 0, int(word)))])
            row = f"wall gate {word} {word} {word} {word} 0 0 0 {word} 0"
            self.assertEqual(shown_yard(read_yard(SUN + "\n" + row)), SUN + "\n" + row)

    def test_hours(self):
        for hour in ("-1", "10000", "99999", str(BIG), "9" * 50, "x", "00", "-0", "012", "+12", "12.", ""):
            in_each_place(self, f"sun {hour} 0 0 1", LATER)
        for hour in ("0", "9", "10", "9999"):
            self.assertEqual(read_yard(f"sun {hour} 0 0 1"), ([(int(hour), (0, 0, 1))], [], []))

    def test_an_hour_again_and_one_that_falls(self):
        no_row(self, 1, [LATER, LATER])
        no_row(self, 1, [LATER, SUN])
        no_row(self, 1, [LATER, "sun 11 0 0 1"])
        no_row(self, 2, [SUN, LATER, "sun 12 1 1 1", WALL])
        no_row(self, 2, [SUN, LATER, "sun 5 1 1 1", WALL])
        self.assertEqual(len(read_yard("\n".join([SUN, LATER, "sun 13 1 1 1"]))[0]), 3)

    def test_a_direction_that_is_none(self):
        in_each_place(self, "sun 12 0 0 0", LATER)

    def test_the_eighty_first_hour(self):
        rows = [f"sun {hour} 0 0 1" for hour in range(100, 182)]
        self.assertEqual(len(read_yard("\n".join(rows[:80]))[0]), 80)
        no_row(self, 80, rows[:81])
        no_row(self, 80, rows)
        no_row(self, 80, rows[:81] + [WALL])
        read_yard("\n".join(rows[:80] + [WALL, DIAL]))

    def test_a_twenty_first_wall_or_dial(self):
        walls = [f"wall w{LETTERS[k]} 1 2 3 5 0 0 0 0 7" for k in range(22)]
        dials = [f"dial d{LETTERS[k]} 0 0 0 4 0 0 0 2 0 1 1 2" for k in range(22)]
        read_yard("\n".join([SUN] + walls[:20] + dials[:20]))
        no_row(self, 21, [SUN] + walls[:21])
        no_row(self, 21, [SUN] + walls[:21] + dials[:20])
        no_row(self, 21, [SUN] + dials[:21])
        no_row(self, 41, [SUN] + walls[:20] + dials)

    def test_out_of_order(self):
        no_row(self, 2, [SUN, WALL, LATER])
        no_row(self, 2, [SUN, DIAL, LATER])
        no_row(self, 2, [SUN, DIAL, WALL])
        no_row(self, 3, [SUN, WALL, DIAL, ROWS[3]])
        no_row(self, 3, [SUN, WALL, DIAL, LATER])
        no_row(self, 0, [WALL, SUN])

    def test_names(self):
        for like in (WALL, DIAL):
            kind, name, rest = like.split(" ", 2)
            for other in ("", "Gate", "gatE", "gate1", "abcdefghi", "a-b", "a_b", "7", "-", "ga\tte", "{", "`"):
                in_each_place(self, f"{kind} {other} {rest}", like)
            for other in ("a", "z", "abcdefgh", "sun", "wall", "dial"):
                self.assertEqual(shown_yard(read_yard(f"{SUN}\n{kind} {other} {rest}")), f"{SUN}\n{kind} {other} {rest}")

    def test_a_name_that_stands(self):
        no_row(self, 2, [SUN, WALL, WALL])
        no_row(self, 2, [SUN, DIAL, DIAL])
        no_row(self, 2, [SUN, WALL, DIAL.replace("face", "gate")])
        no_row(self, 4, [SUN, WALL, ROWS[3], DIAL, "dial hut 0 0 0 4 0 0 0 2 0 1 1 2"])

    def test_a_plate_that_is_none(self):
        for numbers in ("1 2 3 5 0 0 0 0 0", "1 2 3 0 0 0 5 0 0", "1 2 3 5 1 2 10 2 4", "1 2 3 5 1 2 -5 -1 -2", "0 0 0 0 0 0 0 0 0"):
            in_each_place(self, "wall other " + numbers, WALL)
            in_each_place(self, "dial other " + numbers + " 1 1 2", DIAL)

    def test_a_tip_that_does_not_stand_ahead(self):
        for tip in ("1 1 0", "1 1 -1", "0 0 0", "1000000000 1000000000 -1"):
            in_each_place(self, "dial other 0 0 0 4 0 0 0 2 0 " + tip, DIAL)

    def test_of_several_the_first_row(self):
        no_row(self, 1, [SUN, "x", "sun", WALL + " "])
        no_row(self, 1, [SUN, "wall gate 1 2 3 5 0 0 0 0 0", "x"])
        no_row(self, 2, [SUN, WALL, "x", WALL, LATER, ""])
        no_row(self, 2, [SUN, LATER, LATER, "x"])
        no_row(self, 3, ROWS[:3] + [LATER, "", ""])
        no_row(self, 0, ["x", "x"])


NUMBER = r"(?:0|-?[1-9][0-9]*)"
FORM = re.compile(rf"sun( {NUMBER}){{4}}|wall [a-z]{{1,8}}( {NUMBER}){{9}}|dial [a-z]{{1,8}}( {NUMBER}){{12}}")


def first_wrong_row(text):
    """By the words: rows are taken in one by one, the yard made of them anew, or None where all can stand."""
    yard = {"sun": [], "wall": [], "dial": []}
    for number, row in enumerate(text.split("\n")):
        if not FORM.fullmatch(row):
            return number
        words = row.split(" ")
        triples = [tuple(int(word) for word in words[at:at + 3]) for at in range(2, len(words), 3)]
        plate = tuple(triples[:3])
        entry = {
            "sun": (words[1].lstrip("-").isdigit() and int(words[1]), triples[0]), "wall": (words[1], plate),
            "dial": (words[1], plate, triples[-1]),
        }[words[0]]
        behind = {"sun": ("wall", "dial"), "wall": ("dial",), "dial": ()}[words[0]]
        if any(yard[kind] for kind in behind):
            return number
        yard[words[0]].append(entry)
        try:
            look_at_yard((yard["sun"], yard["wall"], yard["dial"]))
        except (NoSun, NoYard):
            return number
    return None


class TestMany(unittest.TestCase):
    def test_a_sign_exchanged_left_out_or_put_in(self):
        draw = Draw(33)
        whole = "\n".join(ROWS)
        seen = {True: 0, False: 0}
        for turn in range(2500):
            text = whole
            for change in range(draw.number(1, 2)):
                at = draw.number(0, len(text) - 1)
                signs = " 0123456789-asunwldit\n\t"
                sign = ("", signs[draw.number(0, len(signs) - 1)])[draw.number(0, 1)]
                text = text[:at] + sign + text[at + draw.number(0, 1):]
            wrong = first_wrong_row(text)
            if wrong is None:
                self.assertEqual(shown_yard(read_yard(text)), text)
            else:
                no_row(self, wrong, text)
            seen[wrong is None] += 1
        self.assertGreater(min(seen.values()), 200)


class TestAsked(unittest.TestCase):
    def test_nothing_handed_in_is_changed(self):
        unchanged(self, shown_yard, YARD)
        unchanged(self, read_yard, "\n".join(ROWS))
        unchanged(self, read_yard, list(ROWS))

    def test_what_is_told_is_the_askers_own(self):
        text = "\n".join(ROWS)
        told = read_yard(text)
        for things in told:
            things.append("mine")
            things[0] = "other"
        self.assertEqual(read_yard(text), YARD)
        told = read_yard(SUN)
        told[1].append("mine")
        self.assertEqual(read_yard(SUN), (YARD[0][:1], [], []))
        self.assertEqual(shown_yard(copy.deepcopy(YARD)), text)


if __name__ == "__main__":
    unittest.main()
