"""Points: tuples of three fractions; and places: tuples of two."""

from dialyard.ratios import is_under, ratio_less, ratio_sum, ratio_times


def as_point(triple):
    return tuple([(number, 1) for number in triple])


def point_less(point, triple):
    return tuple([ratio_less(point[axis], (triple[axis], 1)) for axis in range(3)])


def point_dot(point, triple):
    products = [ratio_times(point[axis], (triple[axis], 1)) for axis in range(3)]
    return ratio_sum(products[0], ratio_sum(products[1], products[2]))


def turn_of(one, other, third):
    # Above 0 where the way from one place by the other to the third goes to the
    # left, below 0 where it goes to the right, 0 where they lie on one line.
    along = [ratio_less(other[axis], one[axis]) for axis in range(2)]
    beyond = [ratio_less(third[axis], one[axis]) for axis in range(2)]
    return ratio_less(ratio_times(along[0], beyond[1]), ratio_times(along[1], beyond[0]))


def is_lower_place(one, other):
    if one[0] != other[0]:
        return is_under(one[0], other[0])
    return is_under(one[1], other[1])
