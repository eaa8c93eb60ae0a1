"""Which plates hide a point from a direction."""

from dialyard.plates import front_of, lies_on
from dialyard.points import point_dot, point_less
from dialyard.shadows import meeting_of
from dialyard.triples import dot_of


def goes_towards(plate, point, direction):
    # The plane is come to beyond the point just where the point lies on one side
    # of it and the direction leads to the other; a point in it lies on neither.
    front = front_of(plate)
    height = point_dot(point_less(point, plate[0]), front)
    return height[0] * dot_of(front, direction) < 0


def hides_point(plate, point, direction):
    return goes_towards(plate, point, direction) and lies_on(meeting_of(plate, point, direction))
