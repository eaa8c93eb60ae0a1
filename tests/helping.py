"""What the tests share: wrong things, numbers, and how a refusal is looked at."""

import copy
from decimal import Decimal
from fractions import Fraction

from dialyard import errors
from dialyard.plates import lies_on, point_of
from dialyard.ratios import is_ratio
from dialyard.yards import look_at_yard

BESIDE = {
    name: getattr(errors, name)
    for name in (
        "NoNumber", "NoPlate", "NoSun", "NoYard", "NotLit", "NoHour",
        "TooMany", "NoRow", "NoName", "NoSay", "NoBack",
    )
}

BIG = 1234567890123456789012345678901234567891  # forty figures
BIGGER = 9876543210987654321098765432109876543210
HUGE = 10 ** 399 + 7  # four hundred figures

E9 = 10 ** 9

LETTERS = "abcdefghijklmnopqrstuvwxyz"

WHOLES = (0, 1, -1, 2, -3, 6, -10, 10 ** 9, -10 ** 9, BIG, -BIGGER, HUGE, -HUGE)


FLOOR = ((0, 0, 0), (4, 0, 0), (0, 2, 0))
SOUTH_WALL = ((1, 2, 3), (5, 0, 0), (0, 0, 7))
SLANTED = ((-3, 5, 2), (2, -1, 4), (1, 3, -2))
FAR = ((E9, -E9, E9), (-E9, E9, 0), (0, E9, -E9))
PLATES = (FLOOR, SOUTH_WALL, SLANTED, FAR)


class Thorn:
    """A thing that fails wherever it is asked for anything."""

    def fail(self, *things):
        raise RuntimeError("a thorn was touched")

    __eq__ = __lt__ = __le__ = __gt__ = __ge__ = __bool__ = __len__ = __iter__ = fail
    __getitem__ = __int__ = __index__ = __add__ = __mul__ = __neg__ = __abs__ = fail
    __str__ = __repr__ = __hash__ = __contains__ = __mod__ = __floordiv__ = fail


def own_list():
    """A list that holds itself."""
    things = []
    things.append(things)
    return things


NO_WHOLES = (
    True, False, None, "", "1", "one", "1/2", 1.0, 0.5, float("nan"), float("inf"), 1j,
    b"1", bytearray(b"1"), [], [1], [1, 2], [1, 2, 3], {}, {1: 2}, {0: 1, 1: 2, 2: 3},
    set(), {1, 2}, frozenset((1, 2, 3)), (), (1,), (1, 2), (1, 2, 3), (1, 2, 3, 4),
    ((1, 2), (1, 2)), range(2), range(3), Fraction(1, 2), Fraction(2), Decimal(1),
    object(), Thorn(), Thorn, int, bool, len, own_list(), iter((1, 2)), NotImplemented, ...,
)


def refused(case, told, call, *things):
    """Looks that the call is refused with the told class and with none beside it."""
    try:
        answer = call(*things)
    except Exception as error:
        case.assertIsInstance(error, told)
        case.assertIsInstance(error, errors.YardError)
        case.assertIsInstance(error, ValueError)
        are = [name for name, kind in BESIDE.items() if isinstance(error, kind)]
        case.assertEqual(are, [told.__name__])
        return error
    case.fail(f"not refused, but answered {answer!r}")


def unchanged(case, call, *things):
    """Looks that nothing handed in is changed, whether the call answers or refuses."""
    ahead = copy.deepcopy(things)
    try:
        call(*things)
    except errors.YardError:
        pass
    case.assertEqual(things, ahead)


def as_ratio(fraction):
    return (fraction.numerator, fraction.denominator)


def exchanged(things, at, thing):
    """The tuple with one of its things exchanged."""
    return things[:at] + (thing,) + things[at + 1:]


def with_number(plate, which, at, number):
    """The plate with one of its nine numbers exchanged."""
    return exchanged(plate, which, exchanged(plate[which], at, number))


def cleared(rows):
    """Three rows of four Fractions, brought to ones and noughts: the last of each row, or None where that can't be."""
    rows = [[Fraction(number) for number in row] for row in rows]
    for at in range(3):
        below = [row for row in rows[at:] if row[at] != 0]
        if not below:
            return None
        rows.remove(below[0])
        head = [number / below[0][at] for number in below[0]]
        rows = [[row[k] - row[at] * head[k] for k in range(4)] for row in rows]
        rows.insert(at, head)
    return [row[3] for row in rows]


def met(plate, point, direction):
    """Fractions s, t, k where corner + s side + t other = point + k direction; None where no three alone fit."""
    corner, side, other = plate
    return cleared([
        [side[axis], other[axis], -direction[axis], Fraction(*point[axis]) - corner[axis]] for axis in range(3)
    ])


class Draw:
    """Whole numbers that look thrown, and are the same each time."""

    def __init__(self, seed):
        self.state = seed

    def number(self, least, most):
        self.state = (self.state * 6364136223846793005 + 1442695040888963407) % 2 ** 64
        return least + (self.state >> 20) % (most - least + 1)

    def triple(self, most):
        return tuple(self.number(-most, most) for axis in range(3))

    def direction(self, most):
        triple = self.triple(most)
        return triple if any(triple) else (0, 0, 1)

    def point(self, most):
        return tuple(as_ratio(Fraction(self.number(-most, most), self.number(1, 7))) for axis in range(3))

    def plate(self, most):
        while True:
            corner, side, other = self.triple(most), self.triple(most), self.triple(most)
            if any(side[k] * other[k - 1] != side[k - 1] * other[k] for k in range(3)):
                return (corner, side, other)


def told_by_the_words(yard, hour, name):
    """What is told, reckoned another way: by three rows with three unknowns."""
    direction = dict(yard[0])[hour]
    plates = {thing[0]: thing[1] for thing in yard[1] + yard[2]}
    tip = {dial[0]: dial[2] for dial in yard[2]}[name]
    if direction[2] <= 0:
        return ("down",)
    found = met(plates[name], [(number, 1) for number in tip], direction)
    # The tip stands ahead, so from ahead the plane lies against the direction.
    if found is None or found[2] > 0:
        return ("behind",)
    place = (as_ratio(found[0]), as_ratio(found[1]))
    if not lies_on(place):
        return ("off", place)
    point = point_of(plates.pop(name), place)
    names = []
    for other, plate in plates.items():
        there = met(plate, point, direction)
        if there is not None and there[2] > 0 and 0 <= there[0] <= 1 and 0 <= there[1] <= 1:
            names.append(other)
    return ("hidden", sorted(names)) if names else ("read", place)


def drawn_yard(draw, most):
    sun = [(hour, draw.direction(most)) for hour in range(0, 40, 5)]
    walls = [(name, draw.plate(most)) for name in ("oak", "ash", "zinc")[:draw.number(0, 3)]]
    dials = []
    for name in ("moon", "face", "rose"):
        plate = draw.plate(most)
        foot = [plate[0][k] + (plate[1][k] + plate[2][k]) // 2 for k in range(3)]
        tip = tuple(max(-E9, min(E9, foot[k] + draw.number(-2, 2))) for k in range(3))
        try:
            look_at_yard((sun, [], [(name, plate, tip)]))
        except errors.NoYard:
            continue
        dials.append((name, plate, tip))
    return (sun, walls, dials)


def drawn_garden(draw, walls, dials, hours):
    """A yard of small flat dials under small roofs and beside small walls, so that much is read and much is hidden."""
    sun = []
    for number in range(hours):
        sun.append((7 * number, (draw.number(-3, 3), draw.number(-3, 3), draw.number(0, 4) or -1)))
    roofs = []
    for number in range(walls):
        corner = (draw.number(-2, 9), draw.number(-2, 9), draw.number(2, 5))
        wide = (draw.number(1, 6), draw.number(-2, 0), draw.number(-1, 1))
        roofs.append(("w" + LETTERS[number], (corner, wide, (draw.number(0, 2), draw.number(1, 6), 0))))
    faces = []
    for number in range(dials):
        x, y, z = draw.number(0, 7), draw.number(0, 7), draw.number(0, 1)
        face = ((x, y, z), (4, 0, draw.number(-1, 1)), (0, 4, 0))
        faces.append(("d" + LETTERS[number], face, (x + 2, y + 2, z + draw.number(2, 3))))
    return (sun, roofs, faces)


def places_of(*pairs):
    return [(as_ratio(Fraction(s)), as_ratio(Fraction(t))) for s, t in pairs]


def part_of_pairs(pairs):
    """The part that bulges round these pairs of Fractions, found by walking below them and above them."""
    def half(ordered):
        kept = []
        for pair in ordered:
            while len(kept) > 1 and turned(kept[-2], kept[-1], pair) <= 0:
                kept.pop()
            kept.append(pair)
        return kept[:-1]

    ordered = sorted(set(pairs))
    round_about = half(ordered) + half(ordered[::-1])
    return places_of(*round_about) if len(round_about) > 2 else []


def turned(one, other, third):
    return (other[0] - one[0]) * (third[1] - one[1]) - (other[1] - one[1]) * (third[0] - one[0])


def is_part(case, part):
    """Looks that the list of places is a part: its first corner, its going to the left, and no three on one line."""
    case.assertIsInstance(part, list)
    for place in part:
        case.assertIsInstance(place, tuple)
        case.assertEqual(len(place), 2)
        case.assertTrue(all(is_ratio(number) for number in place), place)
    pairs = [(Fraction(*s), Fraction(*t)) for s, t in part]
    case.assertNotIn(len(pairs), (1, 2))
    case.assertEqual(len(set(pairs)), len(pairs))
    for number in range(len(pairs)):
        case.assertGreater(turned(pairs[number - 2], pairs[number - 1], pairs[number]), 0)
    if pairs:
        case.assertEqual(min(pairs), pairs[0])
