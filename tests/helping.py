"""What the tests share: wrong things, numbers, and how a refusal is looked at."""

import copy
from decimal import Decimal
from fractions import Fraction

from dialyard import errors

BESIDE = {
    name: getattr(errors, name)
    for name in (
        "NoNumber", "NoPlate", "NoSun", "NoYard", "NotLit", "NoHour",
        "TooMany", "NoRow", "NoName", "NoSay", "NoBack",
    )
}

BIG = 1234567890123456789012345678901234567891  # forty figures
BIGGER = 9876543210987654321098765432109876543210
HUGE = 10 ** 399 + 7  # four hundred figures

WHOLES = (0, 1, -1, 2, -3, 6, -10, 10 ** 9, -10 ** 9, BIG, -BIGGER, HUGE, -HUGE)


class Thorn:
    """A thing that fails wherever it is asked for anything."""

    def fail(self, *things):
        raise RuntimeError("a thorn was touched")

    __eq__ = __lt__ = __le__ = __gt__ = __ge__ = __bool__ = __len__ = __iter__ = fail
    __getitem__ = __int__ = __index__ = __add__ = __mul__ = __neg__ = __abs__ = fail
    __str__ = __repr__ = __hash__ = __contains__ = __mod__ = __floordiv__ = fail


def own_list():
    """A list that holds itself."""
    things = []
    things.append(things)
    return things


NO_WHOLES = (
    True, False, None, "", "1", "one", "1/2", 1.0, 0.5, float("nan"), float("inf"), 1j,
    b"1", bytearray(b"1"), [], [1], [1, 2], [1, 2, 3], {}, {1: 2}, {0: 1, 1: 2, 2: 3},
    set(), {1, 2}, frozenset((1, 2, 3)), (), (1,), (1, 2), (1, 2, 3), (1, 2, 3, 4),
    ((1, 2), (1, 2)), range(2), range(3), Fraction(1, 2), Fraction(2), Decimal(1),
    object(), Thorn(), Thorn, int, bool, len, own_list(), iter((1, 2)), NotImplemented, ...,
)


def refused(case, told, call, *things):
    """Looks that the call is refused with the told class and with none beside it."""
    try:
        answer = call(*things)
    except Exception as error:
        case.assertIsInstance(error, told)
        case.assertIsInstance(error, errors.YardError)
        case.assertIsInstance(error, ValueError)
        are = [name for name, kind in BESIDE.items() if isinstance(error, kind)]
        case.assertEqual(are, [told.__name__])
        return error
    case.fail(f"not refused, but answered {answer!r}")


def unchanged(case, call, *things):
    """Looks that nothing handed in is changed, whether the call answers or refuses."""
    ahead = copy.deepcopy(things)
    try:
        call(*things)
    except errors.YardError:
        pass
    case.assertEqual(things, ahead)
