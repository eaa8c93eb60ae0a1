"""Hours read back from a shadow, what lies on one line, and the tracks of dials."""

from dialyard.points import turn_of
from dialyard.triples import NOUGHT, cross_of, dot_of
from dialyard.yards import told_at


def track_of(yard, name):
    track = []
    for entry in yard[0]:
        told = told_at(yard, entry[0], name)
        if told[0] == "read":
            track.append((entry[0], told[1]))
    return track


def hours_at(yard, name, place):
    return [entry[0] for entry in track_of(yard, name) if entry[1] == place]


def on_one_line(places):
    # Two unlike places have one line alone, so the others fit that one or none.
    unlike = [place for place in places if place != places[0]]
    return all([turn_of(places[0], unlike[0], place) == (0, 1) for place in unlike])


def in_one_plane(directions):
    # Two directions across one another have one plane alone, and their cross has
    # the product 0 with all that lies in it.
    across = [direction for direction in directions if cross_of(directions[0], direction) != NOUGHT]
    return all([dot_of(cross_of(directions[0], across[0]), direction) == 0 for direction in across])


def bends_of(yard, name):
    track = track_of(yard, name)
    bends = []
    for number in range(1, len(track) - 1):
        places = [entry[1] for entry in track[number - 1:number + 2]]
        if not on_one_line(places):
            bends.append(track[number][0])
    return bends
