"""Yards written as rows, and read again."""

from dialyard.errors import NoRow, NoSun, NoYard
from dialyard.yards import look_at_yard

# In the order in which their rows come, and their things stand in a yard.
KINDS = ("sun", "wall", "dial")

NUMBERS_IN = {"sun": 3, "wall": 9, "dial": 12}

MOST_FIGURES = 40


def number_of(word):
    figures = word[1:] if word.startswith("-") else word
    # Looked at first, as int takes blanks and more, and no text of some thousand figures.
    if not 1 <= len(figures) <= MOST_FIGURES or not all(["0" <= sign <= "9" for sign in figures]):
        return None
    number = int(word)
    # A number is written in one way alone: not as -0, nor with noughts ahead.
    return number if str(number) == word else None


def entry_of(kind, first, numbers):
    triples = [tuple(numbers[at:at + 3]) for at in range(0, len(numbers), 3)]
    if kind == "sun":
        return (first, triples[0])
    if kind == "wall":
        return (first, tuple(triples))
    return (first, tuple(triples[:3]), triples[3])


def read_row(row):
    words = row.split(" ")
    if words[0] not in KINDS or len(words) != NUMBERS_IN[words[0]] + 2:
        return None
    # Of a word that is no number comes None, and a yard with such a one is none.
    first = number_of(words[1]) if words[0] == "sun" else words[1]
    numbers = [number_of(word) for word in words[2:]]
    return (KINDS.index(words[0]), entry_of(words[0], first, numbers))


def is_yard(thing):
    try:
        look_at_yard(thing)
    except (NoSun, NoYard):
        return False
    return True


def read_yard(text):
    if not isinstance(text, str):
        raise NoRow(0)
    yard = ([], [], [])
    for number, row in enumerate(text.split("\n")):
        read = read_row(row)
        if read is None or any(yard[read[0] + 1:]):
            raise NoRow(number)
        yard[read[0]].append(read[1])
        # What stood ahead was a yard, so it is this row that makes it none.
        if not is_yard(yard):
            raise NoRow(number)
    return yard


def written_row(kind, first, numbers):
    return " ".join([kind, str(first)] + [str(number) for number in numbers])


def shown_yard(yard):
    rows = [written_row("sun", entry[0], entry[1]) for entry in yard[0]]
    for thing in yard[1] + yard[2]:
        numbers = thing[1][0] + thing[1][1] + thing[1][2]
        if len(thing) == 2:
            rows.append(written_row("wall", thing[0], numbers))
        else:
            rows.append(written_row("dial", thing[0], numbers + thing[2]))
    return "\n".join(rows)
