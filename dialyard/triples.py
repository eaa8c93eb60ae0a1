"""Triples of whole numbers: so far east, north, up."""

from dialyard.ratios import is_whole

NOUGHT = (0, 0, 0)

FARTHEST = 1000000000


def is_triple(thing):
    if not isinstance(thing, tuple) or len(thing) != 3:
        return False
    return all([is_whole(number) for number in thing])


def is_near_triple(thing):
    return is_triple(thing) and all([-FARTHEST <= number <= FARTHEST for number in thing])


def triple_sum(one, other):
    return (one[0] + other[0], one[1] + other[1], one[2] + other[2])


def triple_less(one, other):
    return (one[0] - other[0], one[1] - other[1], one[2] - other[2])


def triple_times(one, many):
    return (one[0] * many, one[1] * many, one[2] * many)


def dot_of(one, other):
    return one[0] * other[0] + one[1] * other[1] + one[2] * other[2]


def cross_of(one, other):
    return (
        one[1] * other[2] - one[2] * other[1],
        one[2] * other[0] - one[0] * other[2],
        one[0] * other[1] - one[1] * other[0],
    )
