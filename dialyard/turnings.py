"""Yards turned, mirrored, moved and made greater."""

from dialyard.errors import NoYard
from dialyard.triples import NOUGHT, dot_of, is_near_triple, triple_sum, triple_times

# The product of each row and a triple is one number of the triple that comes of it.
SAME = ((1, 0, 0), (0, 1, 0), (0, 0, 1))

LEFT = ((0, -1, 0), (1, 0, 0), (0, 0, 1))

MIRROR = ((-1, 0, 0), (0, 1, 0), (0, 0, 1))


def by_rows(rows, triple, shift):
    changed = triple_sum(tuple([dot_of(row, triple) for row in rows]), shift)
    if not is_near_triple(changed):
        raise NoYard(None)
    return changed


def plate_by_rows(rows, plate, shift):
    return (by_rows(rows, plate[0], shift), by_rows(rows, plate[1], NOUGHT), by_rows(rows, plate[2], NOUGHT))


def yard_by_rows(sun_rows, rows, yard, shift):
    sun = [(entry[0], by_rows(sun_rows, entry[1], NOUGHT)) for entry in yard[0]]
    walls = [(wall[0], plate_by_rows(rows, wall[1], shift)) for wall in yard[1]]
    dials = [(dial[0], plate_by_rows(rows, dial[1], shift), by_rows(rows, dial[2], shift)) for dial in yard[2]]
    return (sun, walls, dials)


def exchanged_sides(plate):
    return (plate[0], plate[2], plate[1])


def turned_yard(yard):
    return yard_by_rows(LEFT, LEFT, yard, NOUGHT)


def mirrored_yard(yard):
    # A mirror alone would have each plate face about; the exchange has it face as its like does.
    walls = [(wall[0], exchanged_sides(wall[1])) for wall in yard[1]]
    dials = [(dial[0], exchanged_sides(dial[1]), dial[2]) for dial in yard[2]]
    return yard_by_rows(MIRROR, MIRROR, (yard[0], walls, dials), NOUGHT)


def moved_yard(yard, triple):
    return yard_by_rows(SAME, SAME, yard, triple)


def greater_yard(yard, many):
    rows = [triple_times(row, many) for row in SAME]
    return yard_by_rows(SAME, rows, yard, NOUGHT)
