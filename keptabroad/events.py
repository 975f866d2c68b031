"""The forms of events, whether they can come or not."""

from keptabroad.checks import is_number, is_rising, is_tuple
from keptabroad.deeds import has_deed_form, is_thing

MOST_EVENTS = 64
LAST_NUMBER = 63


def is_house(homes, value):
    """Whether a value is a house of homes."""
    return is_number(value, 0, max(homes))


def is_card(homes, value):
    """Whether a value is a pair that can stand in the keep of a fall."""
    return is_tuple(value, 2, 2) and is_number(value[0], 0, LAST_NUMBER) and is_thing(homes, value[1])


def is_keep(homes, value):
    """Whether a value can be the keep of a fall."""
    return isinstance(value, tuple) and all([is_card(homes, card) for card in value]) and is_rising(value)


def has_house(homes, rest):
    """Whether the rest of a sync or an up has its form."""
    return len(rest) == 1 and is_house(homes, rest[0])


def has_fall(homes, rest):
    """Whether the rest of a fall has its form."""
    return len(rest) == 2 and is_house(homes, rest[0]) and is_keep(homes, rest[1])


def has_send(homes, rest):
    """Whether the rest of a send has its form."""
    return len(rest) == 2 and is_house(homes, rest[0]) and is_house(homes, rest[1]) and rest[0] != rest[1]


def has_hear(_, rest):
    """Whether the rest of a hear has its form."""
    return len(rest) == 1 and is_number(rest[0], 0, LAST_NUMBER)


FORMS = {
    "do": has_deed_form,
    "sync": has_house,
    "fall": has_fall,
    "up": has_house,
    "send": has_send,
    "hear": has_hear,
}


def is_event(homes, value):
    """Whether a value is an event, for homes that are checked already."""
    # Only a string may be looked up: a list or a dict in its place cannot be a key.
    if not isinstance(value, tuple) or len(value) == 0 or not isinstance(value[0], str):
        return False
    if value[0] not in FORMS:
        return False
    has_form = FORMS[value[0]]
    return has_form(homes, value[1:])
