"""The fewest syncs behind which wished deeds are sure."""

from keptabroad.checks import is_number, is_rising, is_tuple
from keptabroad.deeds import check_deeds, check_homes, houses_of
from keptabroad.errors import BadWishes, NotMade
from keptabroad.events import MOST_EVENTS
from keptabroad.state import state_behind


def fewest_syncs(homes, deeds, wishes):
    """The fewest moments and houses at which these are to be synced so that all wishes come true."""
    return tuple([(last, house) for house, _, last in apart(homes, deeds, wishes)])


def apart(homes, deeds, wishes):
    """As many stretches as the fewest syncs, no two of which at one house have a moment in common."""
    check_homes(homes)
    check_deeds(homes, deeds)
    check_wishes(deeds, wishes)
    state = state_behind(homes, events_of(deeds))
    begins = [first_moments(state, deed) for deed in range(len(deeds))]
    found = []
    for house in range(houses_of(homes)):
        stretches = [(begins[deed][house], moment) for deed, moment in wishes if house in begins[deed]]
        found.extend([(house, first, last) for first, last in apart_of(stretches)])
    return tuple(found)


def synced_row(homes, deeds, wishes):
    """The row of the deeds with the fewest syncs."""
    syncs = fewest_syncs(homes, deeds, wishes)
    if len(deeds) + len(syncs) > MOST_EVENTS:
        raise NotMade("the row has more than 64 events")
    row = []
    for number, event in enumerate(events_of(deeds)):
        row.append(event)
        # The syncs are ordered by house, so that those of one moment are, too.
        row.extend([("sync", house) for moment, house in syncs if moment == number + 1])
    return tuple(row)


def check_wishes(deeds, wishes):
    """Raises BadWishes for a value that is no ascending tuple of unlike wishes."""
    if not isinstance(wishes, tuple) or not all([is_wish(deeds, wish) for wish in wishes]) or not is_rising(wishes):
        raise BadWishes("wishes are an ascending tuple of unlike ones")


def is_wish(deeds, value):
    """Whether a value is a wish for some deeds."""
    if not is_tuple(value, 2, 2):
        return False
    deed, moment = value
    return is_number(deed, 0, len(deeds) - 1) and is_number(moment, deed + 1, len(deeds))


def events_of(deeds):
    """The row in which deeds are done in order, and nothing else happens."""
    return tuple([("do",) + deed for deed in deeds])


def first_moments(state, deed):
    """For each house that has a card of the deeds on which a deed leans the moment behind the last such card."""
    first = {}
    # They are ascending, so that the last one stays.
    for other in state.leaned[deed]:
        for thing, _ in state.wrote[other]:
            first[state.homes[thing]] = other + 1
    return first


def apart_of(stretches):
    """Of stretches at one house those at whose ends syncs are set, the one that begins last for each end."""
    found = []
    synced = 0
    for first, last in sorted(stretches, key=lambda stretch: (stretch[1], -stretch[0])):
        # None of them ends ahead of the last sync: one that begins behind it has no moment yet.
        if first > synced:
            found.append((first, last))
            synced = last
    return found
