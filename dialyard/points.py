"""Points: tuples of three fractions."""

from dialyard.ratios import ratio_less, ratio_sum, ratio_times


def as_point(triple):
    return tuple([(number, 1) for number in triple])


def point_less(point, triple):
    return tuple([ratio_less(point[axis], (triple[axis], 1)) for axis in range(3)])


def point_dot(point, triple):
    products = [ratio_times(point[axis], (triple[axis], 1)) for axis in range(3)]
    return ratio_sum(products[0], ratio_sum(products[1], products[2]))
