"""Yards: tuples (sun, walls, dials), and what is told of a dial at an hour."""

from dialyard.errors import NoName, NoPlate, NoYard
from dialyard.hiding import hides_point
from dialyard.plates import is_ahead, lies_on, look_at_plate, point_of
from dialyard.shadows import shadow_of
from dialyard.suns import direction_at, is_up, look_at_sun
from dialyard.triples import is_near_triple

MOST_OF_A_KIND = 20

LONGEST_NAME = 8


def is_name(thing):
    if not isinstance(thing, str) or not 1 <= len(thing) <= LONGEST_NAME:
        return False
    return all(["a" <= sign <= "z" for sign in thing])


def is_plate(thing):
    try:
        look_at_plate(thing)
    except NoPlate:
        return False
    return True


def is_tip(plate, thing):
    return is_near_triple(thing) and is_ahead(plate, thing)


def can_stand(thing):
    if not is_plate(thing[1]):
        return False
    # A wall is (name, plate) and has no tip.
    return len(thing) == 2 or is_tip(thing[1], thing[2])


def look_at_one_kind(things, size, taken):
    if not isinstance(things, list):
        raise NoYard(None)
    # All names of a yard are unlike, so dials are looked at behind the walls' names.
    names = list(taken)
    for number, thing in enumerate(things):
        if number == MOST_OF_A_KIND or not isinstance(thing, tuple) or len(thing) != size:
            raise NoYard(None)
        if not is_name(thing[0]):
            raise NoYard(None)
        if thing[0] in names or not can_stand(thing):
            raise NoYard(thing[0])
        names.append(thing[0])
    return names


def look_at_yard(thing):
    if not isinstance(thing, tuple) or len(thing) != 3:
        raise NoYard(None)
    look_at_sun(thing[0])
    names = look_at_one_kind(thing[1], 2, [])
    look_at_one_kind(thing[2], 3, names)


def dial_of(yard, name):
    if isinstance(name, str):
        for dial in yard[2]:
            if dial[0] == name:
                return dial
    raise NoName("no dial stands by this name")


def names_hiding(yard, dial, place, direction):
    point = point_of(dial[1], place)
    others = [thing for thing in yard[1] + yard[2] if thing[0] != dial[0]]
    return sorted([thing[0] for thing in others if hides_point(thing[1], point, direction)])


def told_at(yard, hour, name):
    direction = direction_at(yard[0], hour)
    dial = dial_of(yard, name)
    if not is_up(yard[0], hour):
        return ("down",)
    place = shadow_of(dial[1], dial[2], direction)
    if place is None:
        return ("behind",)
    if not lies_on(place):
        return ("off", place)
    names = names_hiding(yard, dial, place, direction)
    if names:
        return ("hidden", names)
    return ("read", place)
