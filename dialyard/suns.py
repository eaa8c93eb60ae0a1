"""Suns: lists of tuples (hour, direction), hours rising."""

from dialyard.errors import NoHour, NoSun
from dialyard.ratios import is_whole
from dialyard.triples import NOUGHT, is_near_triple

MOST_HOURS = 80

LAST_HOUR = 9999


def is_hour(thing):
    return is_whole(thing) and 0 <= thing <= LAST_HOUR


def is_sun_direction(thing):
    return is_near_triple(thing) and thing != NOUGHT


def is_sun_tuple(thing):
    if not isinstance(thing, tuple) or len(thing) != 2:
        return False
    return is_hour(thing[0]) and is_sun_direction(thing[1])


def look_at_sun(thing):
    if not isinstance(thing, list) or not 1 <= len(thing) <= MOST_HOURS:
        raise NoSun(None)
    # No hour yet: every one that can stand is above it.
    ahead = -1
    for number, entry in enumerate(thing):
        if not is_sun_tuple(entry) or entry[0] <= ahead:
            raise NoSun(number)
        ahead = entry[0]


def direction_at(sun, hour):
    # True == 1 and False == 0, but a truth is no hour.
    if is_whole(hour):
        for entry in sun:
            if entry[0] == hour:
                return entry[1]
    raise NoHour(hour)


def is_up(sun, hour):
    return direction_at(sun, hour)[2] > 0
