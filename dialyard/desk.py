"""A desk that keeps a yard and is told rows of words."""

from dialyard.choosing import fewest_dials, fewest_gone
from dialyard.errors import NoBack, NoName, NoSay
from dialyard.lights import lit_share
from dialyard.papers import KINDS, entry_of, number_of, read_yard, shown_yard
from dialyard.plates import lies_on
from dialyard.ratios import is_ratio
from dialyard.staffs import greatest_staff
from dialyard.suns import is_hour
from dialyard.tracks import bends_of, hours_at, track_of
from dialyard.turnings import greater_yard, mirrored_yard, moved_yard, turned_yard
from dialyard.yards import is_name, look_at_yard, told_at

# What stands behind the first word; .. is for the word ahead of it again and again.
FORMS = {
    "shown": "",
    "turn": "",
    "mirror": "",
    "back": "",
    "move": "number number number",
    "greater": "times",
    "wall": "name number number number number number number number number number",
    "dial": "name number number number number number number number number number number number number",
    "drop": "name",
    "sun": "hour number number number",
    "at": "hour name",
    "hours": "name place",
    "track": "name",
    "bends": "name",
    "lit": "hour name",
    "staff": "name place hour ..",
    "dials": "hour ..",
    "walls": "hour ..",
}

CHANGES = ("yard", "turn", "mirror", "move", "greater", "wall", "dial", "drop", "sun")

MOST_TIMES = 1000


def ratio_in(word):
    cut = word.partition("/")
    top = number_of(cut[0])
    bottom = number_of(cut[2]) if cut[1] else 1
    # A bottom of 1 is not written, so where one is it is from 2 on.
    if not is_ratio((top, bottom)) or (cut[1] and bottom < 2):
        return None
    return (top, bottom)


def place_in(word):
    place = tuple([ratio_in(part) for part in word.split(",")])
    return None if len(place) != 2 or None in place else place


def meant_by(kind, word):
    if kind == "name":
        return word if is_name(word) else None
    if kind == "place":
        return place_in(word)
    number = number_of(word)
    if number is None or (kind == "hour" and not is_hour(number)):
        return None
    if kind == "times" and not 1 <= number <= MOST_TIMES:
        return None
    return number


def kinds_for(form, many):
    kinds = form.split(" ") if form else []
    if kinds and kinds[-1] == "..":
        return kinds[:-1] + [kinds[-2]] * (many - len(kinds) + 1)
    return kinds


def said_by(row):
    # A tuple of the first word and the list of what the words behind it mean.
    if not isinstance(row, str) or "\n" in row:
        raise NoSay("a row is a text without line feeds")
    if row.startswith("yard "):
        return ("yard", [row[len("yard "):]])
    words = row.split(" ")
    if words[0] not in FORMS:
        raise NoSay("no row begins so")
    kinds = kinds_for(FORMS[words[0]], len(words) - 1)
    if len(kinds) != len(words) - 1:
        raise NoSay("words are lacking or over")
    meant = [meant_by(kind, word) for kind, word in zip(kinds, words[1:])]
    if None in meant:
        raise NoSay("a word is not as this row wants it")
    return (words[0], meant)


def thing_named(yard, name):
    for thing in yard[1] + yard[2]:
        if thing[0] == name:
            return thing
    raise NoName("no wall and no dial stands by this name")


def without_name(yard, name):
    thing_named(yard, name)
    walls = [wall for wall in yard[1] if wall[0] != name]
    dials = [dial for dial in yard[2] if dial[0] != name]
    return (yard[0], walls, dials)


def with_entry(yard, kind, entry):
    # Hours and names alike stand first in their tuples.
    things = list(yard[KINDS.index(kind)])
    stood = [thing[0] for thing in things]
    if entry[0] in stood:
        things[stood.index(entry[0])] = entry
    else:
        things.append(entry)
    if kind == "sun":
        things = sorted(things, key=lambda thing: thing[0])
    changed = tuple([things if word == kind else yard[number] for number, word in enumerate(KINDS)])
    look_at_yard(changed)
    return changed


def changed_by(yard, word, meant):
    if word == "yard":
        return read_yard(meant[0].replace("; ", "\n"))
    if word == "turn":
        return turned_yard(yard)
    if word == "mirror":
        return mirrored_yard(yard)
    if word == "move":
        return moved_yard(yard, tuple(meant))
    if word == "greater":
        return greater_yard(yard, meant[0])
    if word == "drop":
        return without_name(yard, meant[0])
    return with_entry(yard, word, entry_of(word, meant[0], meant[1:]))


def written_number(number):
    # Python itself writes no number of more than some thousand figures.
    rest = abs(number)
    groups = []
    while rest >= 10 ** 60:
        groups.append(str(rest % 10 ** 60).zfill(60))
        rest = rest // 10 ** 60
    groups.append(str(rest))
    if number < 0:
        groups.append("-")
    return "".join(reversed(groups))


def written_ratio(ratio):
    top = written_number(ratio[0])
    if ratio[1] == 1:
        return top
    bottom = written_number(ratio[1])
    return f"{top}/{bottom}"


def written_place(place):
    return ",".join([written_ratio(ratio) for ratio in place])


def written_list(things):
    return " ".join([str(thing) for thing in things]) if things else "none"


def written_told(told):
    if told[0] == "hidden":
        return " ".join([told[0]] + told[1])
    if len(told) == 1:
        return told[0]
    return " ".join([told[0], written_place(told[1])])


def written_track(track):
    rows = [" ".join([str(entry[0]), written_place(entry[1])]) for entry in track]
    return "; ".join(rows) if rows else "none"


def written_choice(chosen):
    # Where the choice can't be made it is told as a word and an hour.
    if len(chosen) == 2:
        return " ".join([chosen[0], str(chosen[1])])
    return written_list(chosen[1])


def written_staff(yard, name, foot, hours):
    plate = thing_named(yard, name)[1]
    if not lies_on(foot):
        raise NoSay("the foot of a staff lies on its plate")
    height = greatest_staff(plate, foot, yard[0], hours)
    return "any" if height is None else written_ratio(height)


def answer_of(yard, word, meant):
    if word == "shown":
        return shown_yard(yard).replace("\n", "; ")
    if word == "at":
        return written_told(told_at(yard, meant[0], meant[1]))
    if word == "hours":
        return written_list(hours_at(yard, meant[0], meant[1]))
    if word == "track":
        return written_track(track_of(yard, meant[0]))
    if word == "bends":
        return written_list(bends_of(yard, meant[0]))
    if word == "lit":
        return written_ratio(lit_share(yard, meant[0], meant[1]))
    if word == "staff":
        return written_staff(yard, meant[0], meant[1], meant[2:])
    if word == "dials":
        return written_choice(fewest_dials(yard, meant))
    return written_choice(fewest_gone(yard, meant))


class Desk:
    def __init__(self):
        self.yard = ([(0, (0, 0, 1))], [], [])
        self.earlier = []

    def say(self, row):
        said = said_by(row)
        if said[0] == "back":
            return self.take_back()
        if said[0] not in CHANGES:
            return answer_of(self.yard, said[0], said[1])
        changed = changed_by(self.yard, said[0], said[1])
        self.earlier.append(self.yard)
        self.yard = changed
        return "ok"

    def take_back(self):
        if not self.earlier:
            raise NoBack("no row is left to be taken back")
        self.yard = self.earlier.pop()
        return "ok"
