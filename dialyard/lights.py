"""Light on faces: what plates shade of one another, and the lit share of a dial's plate."""

from dialyard.errors import TooMany
from dialyard.parts import both_of, cut_at_nought, share_of
from dialyard.plates import comes_from_ahead, front_of, point_of
from dialyard.points import point_dot, point_less
from dialyard.ratios import ratio_less, ratio_sum
from dialyard.shadows import meeting_of
from dialyard.suns import direction_at, is_up
from dialyard.yards import dial_of

WHOLE = (((0, 1), (0, 1)), ((1, 1), (0, 1)), ((1, 1), (1, 1)), ((0, 1), (1, 1)))

MOST_SHADING = 6


def shaded_by(plate, other, direction):
    points = [point_of(other, place) for place in WHOLE]
    heights = [point_dot(point_less(point, plate[0]), front_of(plate)) for point in points]
    # At height 0 a plate hides nothing, but is the rim of what it hides from above.
    if all([height[0] <= 0 for height in heights]):
        return []
    thrown = cut_at_nought([meeting_of(plate, point, direction) for point in points], heights)
    if share_of(thrown)[0] < 0:
        # Seen from behind, the other plate's corners go round to the right.
        thrown = list(reversed(thrown))
    return both_of(thrown, list(WHOLE))


def joint_share(parts):
    # Each part adds what does not lie in those ahead of it.
    joint = (0, 1)
    for number, part in enumerate(parts):
        again = [both_of(part, ahead) for ahead in parts[:number]]
        joint = ratio_sum(joint, ratio_less(share_of(part), joint_share(again)))
    return joint


def parts_shaded(yard, dial, direction):
    others = [thing for thing in yard[1] + yard[2] if thing[0] != dial[0]]
    parts = [shaded_by(dial[1], thing[1], direction) for thing in others]
    return [part for part in parts if part]


def lit_share(yard, hour, name):
    direction = direction_at(yard[0], hour)
    dial = dial_of(yard, name)
    if not is_up(yard[0], hour) or not comes_from_ahead(dial[1], direction):
        return (0, 1)
    parts = parts_shaded(yard, dial, direction)
    if len(parts) > MOST_SHADING:
        raise TooMany("more than six plates shade this one")
    return ratio_less((1, 1), joint_share(parts))
