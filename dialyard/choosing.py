"""The fewest dials by which hours are read, and the fewest walls to go for it."""

from dialyard.suns import direction_at
from dialyard.yards import told_at


def hours_once(sun, hours):
    # All hours are looked at ahead of what is told of any of them.
    once = {}
    for hour in hours:
        direction_at(sun, hour)
        once[hour] = True
    return list(once)


def dials_reading(yard, hour):
    dials = yard[2]
    return [[number] for number, dial in enumerate(dials) if told_at(yard, hour, dial[0])[0] == "read"]


def walls_between(yard, hour):
    # Walls that go change what is told of a hidden dial alone, and it is read just
    # where all that hide it are walls and are gone.
    names = [wall[0] for wall in yard[1]]
    found = []
    for dial in yard[2]:
        told = told_at(yard, hour, dial[0])
        if told[0] == "read":
            found.append([])
        if told[0] == "hidden" and all([name in names for name in told[1]]):
            found.append([names.index(name) for name in told[1]])
    return found


def rising_lists(many, size):
    # Each list is made longer in its place, which keeps the order of lists.
    found = [[]]
    for turn in range(size):
        longer = []
        for numbers in found:
            least = numbers[-1] + 1 if numbers else 0
            longer.extend([numbers + [number] for number in range(least, many)])
        found = longer
    return found


def first_without(ways, chosen):
    for entry in ways:
        if not any([all([number in chosen for number in way]) for way in entry[1]]):
            return entry[0]
    return None


def fewest_of(things, ways, word, word_of_none):
    # Of each hour the ways are lists of numbers; one of them must be chosen whole.
    # Where all things are not enough, no choice of them is.
    hour = first_without(ways, list(range(len(things))))
    if hour is not None:
        return (word_of_none, hour)
    size = 0
    paper = []
    while True:
        tried = [(chosen, first_without(ways, chosen)) for chosen in rising_lists(len(things), size)]
        enough = [entry[0] for entry in tried if entry[1] is None]
        if enough:
            return (word, [things[number][0] for number in enough[0]], paper)
        paper = tried
        size += 1


def fewest_dials(yard, hours):
    ways = [(hour, dials_reading(yard, hour)) for hour in hours_once(yard[0], hours)]
    return fewest_of(yard[2], ways, "dials", "unread")


def fewest_gone(yard, hours):
    ways = [(hour, walls_between(yard, hour)) for hour in hours_once(yard[0], hours)]
    return fewest_of(yard[1], ways, "walls", "never")
