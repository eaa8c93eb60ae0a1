"""Staffs on plates: where their tips are, and how high they may be."""

from dialyard.errors import NotLit
from dialyard.plates import comes_from_ahead, front_of, point_of
from dialyard.ratios import is_under, ratio_by, ratio_less, ratio_sum, ratio_times
from dialyard.shadows import shadow_of
from dialyard.suns import direction_at
from dialyard.triples import triple_sum


def staff_tip(plate, foot, height):
    front = front_of(plate)
    point = point_of(plate, foot)
    return tuple([ratio_sum(point[axis], ratio_times(height, (front[axis], 1))) for axis in range(3)])


def reach_of(plate, direction):
    # The way from the foot to the shadow is the same at each foot and grows with
    # the height, so it is told for height 1 at the corner, whose place is 0, 0.
    return shadow_of(plate, triple_sum(plate[0], front_of(plate)), direction)


def height_within(start, reach):
    if reach[0] == 0:
        return None
    room = start if reach[0] < 0 else ratio_less((1, 1), start)
    return ratio_by(room, (abs(reach[0]), reach[1]))


def lit_directions(plate, sun, hours):
    directions = [direction_at(sun, hour) for hour in hours]
    for number, hour in enumerate(hours):
        if not comes_from_ahead(plate, directions[number]):
            raise NotLit(hour)
    return directions


def greatest_staff(plate, foot, sun, hours):
    greatest = None
    for direction in lit_directions(plate, sun, hours):
        reach = reach_of(plate, direction)
        for axis in range(2):
            height = height_within(foot[axis], reach[axis])
            if greatest is None or (height is not None and is_under(height, greatest)):
                greatest = height
    return greatest
