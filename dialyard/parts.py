"""Parts of plates: lists of places, their corners, going round to the left."""

from dialyard.points import is_lower_place, turn_of
from dialyard.ratios import ratio_by, ratio_less, ratio_sum, ratio_times


def share_of(part):
    twice = (0, 1)
    for number, corner in enumerate(part):
        # Ahead of the first corner comes the last one, which is at -1.
        ahead = part[number - 1]
        turn = ratio_less(ratio_times(ahead[0], corner[1]), ratio_times(corner[0], ahead[1]))
        twice = ratio_sum(twice, turn)
    return ratio_times(twice, (1, 2))


def place_between(one, other, way):
    return tuple([ratio_sum(one[axis], ratio_times(way, ratio_less(other[axis], one[axis]))) for axis in range(2)])


def cut_at_nought(corners, heights):
    # Heights rise evenly from corner to corner; kept is what lies at 0 and above.
    kept = []
    for number, corner in enumerate(corners):
        here = heights[number]
        ahead = heights[number - 1]
        if here[0] * ahead[0] < 0:
            way = ratio_by(ahead, ratio_less(ahead, here))
            kept.append(place_between(corners[number - 1], corner, way))
        if here[0] >= 0:
            kept.append(corner)
    return kept


def begun_lowest(corners):
    first = 0
    for number, corner in enumerate(corners):
        if is_lower_place(corner, corners[first]):
            first = number
    return corners[first:] + corners[:first]


def part_round(corners):
    # What is cut may have a corner twice, or one within an edge; where all lies on
    # one line no corner is left.
    unlike = [corner for number, corner in enumerate(corners) if corner != corners[number - 1]]
    left = []
    for number, corner in enumerate(unlike):
        behind = unlike[(number + 1) % len(unlike)]
        if turn_of(unlike[number - 1], corner, behind)[0] > 0:
            left.append(corner)
    return begun_lowest(left)


def both_of(one, other):
    if not other:
        return []
    corners = one
    for number, corner in enumerate(other):
        edge = other[number - 1]
        corners = cut_at_nought(corners, [turn_of(edge, corner, place) for place in corners])
    return part_round(corners)
