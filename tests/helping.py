"""What the tests share: wrong things, numbers, and how a refusal is looked at."""

import copy
from decimal import Decimal
from fractions import Fraction

from dialyard import errors

BESIDE = {
    name: getattr(errors, name)
    for name in (
        "NoNumber", "NoPlate", "NoSun", "NoYard", "NotLit", "NoHour",
        "TooMany", "NoRow", "NoName", "NoSay", "NoBack",
    )
}

BIG = 1234567890123456789012345678901234567891  # forty figures
BIGGER = 9876543210987654321098765432109876543210
HUGE = 10 ** 399 + 7  # four hundred figures

E9 = 10 ** 9

WHOLES = (0, 1, -1, 2, -3, 6, -10, 10 ** 9, -10 ** 9, BIG, -BIGGER, HUGE, -HUGE)


FLOOR = ((0, 0, 0), (4, 0, 0), (0, 2, 0))
SOUTH_WALL = ((1, 2, 3), (5, 0, 0), (0, 0, 7))
SLANTED = ((-3, 5, 2), (2, -1, 4), (1, 3, -2))
FAR = ((E9, -E9, E9), (-E9, E9, 0), (0, E9, -E9))
PLATES = (FLOOR, SOUTH_WALL, SLANTED, FAR)


class Thorn:
    """A thing that fails wherever it is asked for anything."""

    def fail(self, *things):
        raise RuntimeError("a thorn was touched")

    __eq__ = __lt__ = __le__ = __gt__ = __ge__ = __bool__ = __len__ = __iter__ = fail
    __getitem__ = __int__ = __index__ = __add__ = __mul__ = __neg__ = __abs__ = fail
    __str__ = __repr__ = __hash__ = __contains__ = __mod__ = __floordiv__ = fail


def own_list():
    """A list that holds itself."""
    things = []
    things.append(things)
    return things


NO_WHOLES = (
    True, False, None, "", "1", "one", "1/2", 1.0, 0.5, float("nan"), float("inf"), 1j,
    b"1", bytearray(b"1"), [], [1], [1, 2], [1, 2, 3], {}, {1: 2}, {0: 1, 1: 2, 2: 3},
    set(), {1, 2}, frozenset((1, 2, 3)), (), (1,), (1, 2), (1, 2, 3), (1, 2, 3, 4),
    ((1, 2), (1, 2)), range(2), range(3), Fraction(1, 2), Fraction(2), Decimal(1),
    object(), Thorn(), Thorn, int, bool, len, own_list(), iter((1, 2)), NotImplemented, ...,
)


def refused(case, told, call, *things):
    """Looks that the call is refused with the told class and with none beside it."""
    try:
        answer = call(*things)
    except Exception as error:
        case.assertIsInstance(error, told)
        case.assertIsInstance(error, errors.YardError)
        case.assertIsInstance(error, ValueError)
        are = [name for name, kind in BESIDE.items() if isinstance(error, kind)]
        case.assertEqual(are, [told.__name__])
        return error
    case.fail(f"not refused, but answered {answer!r}")


def unchanged(case, call, *things):
    """Looks that nothing handed in is changed, whether the call answers or refuses."""
    ahead = copy.deepcopy(things)
    try:
        call(*things)
    except errors.YardError:
        pass
    case.assertEqual(things, ahead)


def as_ratio(fraction):
    return (fraction.numerator, fraction.denominator)


def exchanged(things, at, thing):
    """The tuple with one of its things exchanged."""
    return things[:at] + (thing,) + things[at + 1:]


def with_number(plate, which, at, number):
    """The plate with one of its nine numbers exchanged."""
    return exchanged(plate, which, exchanged(plate[which], at, number))


def cleared(rows):
    """Three rows of four Fractions, brought to ones and noughts: the last of each row, or None where that can't be."""
    rows = [[Fraction(number) for number in row] for row in rows]
    for at in range(3):
        below = [row for row in rows[at:] if row[at] != 0]
        if not below:
            return None
        rows.remove(below[0])
        head = [number / below[0][at] for number in below[0]]
        rows = [[row[k] - row[at] * head[k] for k in range(4)] for row in rows]
        rows.insert(at, head)
    return [row[3] for row in rows]


def met(plate, point, direction):
    """Fractions s, t, k where corner + s side + t other = point + k direction; None where no three alone fit."""
    corner, side, other = plate
    return cleared([
        [side[axis], other[axis], -direction[axis], Fraction(*point[axis]) - corner[axis]] for axis in range(3)
    ])


class Draw:
    """Whole numbers that look thrown, and are the same each time."""

    def __init__(self, seed):
        self.state = seed

    def number(self, least, most):
        self.state = (self.state * 6364136223846793005 + 1442695040888963407) % 2 ** 64
        return least + (self.state >> 20) % (most - least + 1)

    def triple(self, most):
        return tuple(self.number(-most, most) for axis in range(3))

    def direction(self, most):
        triple = self.triple(most)
        return triple if any(triple) else (0, 0, 1)

    def point(self, most):
        return tuple(as_ratio(Fraction(self.number(-most, most), self.number(1, 7))) for axis in range(3))

    def plate(self, most):
        while True:
            corner, side, other = self.triple(most), self.triple(most), self.triple(most)
            if any(side[k] * other[k - 1] != side[k - 1] * other[k] for k in range(3)):
                return (corner, side, other)
