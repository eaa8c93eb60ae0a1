"""Fractions: tuples (top, bottom) in lowest terms, bottom from 1 on."""

from dialyard.errors import NoNumber


def is_whole(thing):
    return isinstance(thing, int) and not isinstance(thing, bool)


def greatest_factor(one, other):
    while other != 0:
        rest = one % other
        one = other
        other = rest
    return abs(one)


def is_ratio(thing):
    if not isinstance(thing, tuple) or len(thing) != 2:
        return False
    if not is_whole(thing[0]) or not is_whole(thing[1]):
        return False
    return thing[1] >= 1 and greatest_factor(thing[0], thing[1]) == 1


def ratio_of(top, bottom):
    if not is_whole(top) or not is_whole(bottom):
        raise NoNumber("a fraction is made of two whole numbers")
    if bottom == 0:
        raise NoNumber("the bottom of a fraction is not 0")
    factor = greatest_factor(top, bottom)
    if bottom < 0:
        # Both are divided by it, so the bottom comes out above 0.
        factor = -factor
    return (top // factor, bottom // factor)


def ratio_sum(one, other):
    return ratio_of(one[0] * other[1] + other[0] * one[1], one[1] * other[1])


def ratio_less(one, other):
    return ratio_of(one[0] * other[1] - other[0] * one[1], one[1] * other[1])


def ratio_times(one, other):
    return ratio_of(one[0] * other[0], one[1] * other[1])


def ratio_by(one, other):
    # By (0, 1) the bottom comes out as 0, which ratio_of refuses.
    return ratio_of(one[0] * other[1], one[1] * other[0])


def is_under(one, other):
    # Bottoms are above 0, so timing by them keeps the order.
    return one[0] * other[1] < other[0] * one[1]
