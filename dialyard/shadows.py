"""Where lines meet the plane of a plate, and the shadows of tips."""

from dialyard.plates import comes_from_ahead, front_of
from dialyard.points import as_point, point_dot, point_less
from dialyard.ratios import ratio_by
from dialyard.triples import cross_of, dot_of


def meeting_of(plate, point, direction):
    across = dot_of(front_of(plate), direction)
    if across == 0:
        return None
    # Sought are s and t where (point less corner) + k direction = s side + t other.
    # The cross of two of these triples has the product 0 with both of them, so
    # timing by it leaves one unknown alone.
    beyond = point_less(point, plate[0])
    along_side = point_dot(beyond, cross_of(plate[2], direction))
    along_other = point_dot(beyond, cross_of(direction, plate[1]))
    return (ratio_by(along_side, (across, 1)), ratio_by(along_other, (across, 1)))


def shadow_of(plate, tip, direction):
    if not comes_from_ahead(plate, direction):
        return None
    return meeting_of(plate, as_point(tip), direction)
