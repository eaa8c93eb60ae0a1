"""Plates: tuples (corner, side, other), their fronts and their places."""

from dialyard.errors import NoPlate
from dialyard.ratios import ratio_sum, ratio_times
from dialyard.triples import NOUGHT, cross_of, dot_of, is_near_triple, triple_less


def look_at_plate(thing):
    if not isinstance(thing, tuple) or len(thing) != 3:
        raise NoPlate("a plate is a tuple of a corner, a side and another side")
    for triple in thing:
        if not is_near_triple(triple):
            raise NoPlate("a plate is of triples of numbers from -10 ** 9 to 10 ** 9")
    if front_of(thing) == NOUGHT:
        raise NoPlate("the sides of a plate do not lie along one line")


def front_of(plate):
    return cross_of(plate[1], plate[2])


def number_at(plate, place, axis):
    along_side = ratio_times(place[0], (plate[1][axis], 1))
    along_other = ratio_times(place[1], (plate[2][axis], 1))
    return ratio_sum((plate[0][axis], 1), ratio_sum(along_side, along_other))


def point_of(plate, place):
    return tuple([number_at(plate, place, axis) for axis in range(3)])


def lies_on(place):
    # Of a fraction from 0 to 1 the top lies from 0 to the bottom.
    return all([0 <= ratio[0] <= ratio[1] for ratio in place])


def is_ahead(plate, triple):
    return dot_of(front_of(plate), triple_less(triple, plate[0])) > 0


def comes_from_ahead(plate, direction):
    return dot_of(front_of(plate), direction) > 0
