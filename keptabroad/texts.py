"""Texts of rows, a line for each event."""

from keptabroad.deeds import check_homes
from keptabroad.errors import InvalidText, NotText
from keptabroad.events import MOST_EVENTS, is_event
from keptabroad.state import State, state_behind

MOST_DIGITS = 3


def write_row(homes, row):
    """The text of a row."""
    # The state is not needed: it is made to find what is no row.
    state_behind(homes, row)
    return "\n".join([line_of(event) for event in row])


def read_row(homes, text):
    """The row of a text."""
    check_homes(homes)
    check_text(text)
    state = State(homes)
    row = []
    for number, line in enumerate(lines_of(text), start=1):
        event = event_in(line)
        if number > MOST_EVENTS or not is_event(homes, event) or not state.allows(event):
            raise InvalidText(number)
        state.take(event)
        row.append(event)
    return tuple(row)


def check_text(value):
    """Raises NotText for a value that is no string."""
    if not isinstance(value, str):
        raise NotText("no string")


def lines_of(text):
    """The lines of a text: none of an empty one, although it could be split into one."""
    if text == "":
        return []
    return text.split("\n")


def line_of(event):
    """The line of an event."""
    kind = event[0]
    if kind == "do":
        parts = [kind, reads_text(event[1])] + [f"{thing}:{make}:{n}" for thing, make, n in event[2]]
    elif kind == "fall":
        parts = [kind, str(event[1])] + [card_text(card) for card in event[2]]
    else:
        parts = [kind] + [str(number) for number in event[1:]]
    return " ".join(parts)


def reads_text(reads):
    """The text of the reads of a deed."""
    if reads == ():
        return "-"
    return ".".join([str(thing) for thing in reads])


def card_text(card):
    """The text of a card."""
    deed, thing = card
    return f"{deed}:{thing}"


def event_in(line):
    """What a line says: where the line is none of an event, a value that is no event."""
    words = line.split(" ")
    kind = words[0]
    if kind == "do":
        reads = [reads_in(word) for word in words[1:2]]
        return tuple([kind] + reads + [tuple([write_in(word) for word in words[2:]])])
    if kind == "fall":
        houses = [number_in(word) for word in words[1:2]]
        return tuple([kind] + houses + [tuple([numbers_in(word, ":") for word in words[2:]])])
    return tuple([kind] + [number_in(word) for word in words[1:]])


def reads_in(word):
    """The reads that a word tells."""
    if word == "-":
        return ()
    return numbers_in(word, ".")


def write_in(word):
    """The write that a word tells."""
    parts = word.split(":")
    return tuple([number_in(part) for part in parts[:1]] + parts[1:2] + [number_in(part) for part in parts[2:]])


def numbers_in(word, sign):
    """The numbers that a word tells with a sign between them, None for each part that is no number."""
    return tuple([number_in(part) for part in word.split(sign)])


def number_in(word):
    """The number that a word tells, None if it is none that can stand in a row."""
    # Other scripts have digits too, and int reads them. No number of a row is longer: int refuses very long ones.
    if not word.isascii() or not word.isdigit() or len(word) > MOST_DIGITS:
        return None
    # A needless 0 is not written.
    if word[0] == "0" and word != "0":
        return None
    return int(word)
