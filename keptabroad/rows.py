"""Rows of events, and what holds behind them."""

from keptabroad.checks import is_number
from keptabroad.errors import BadDeed, NotNow
from keptabroad.events import MOST_EVENTS, is_event
from keptabroad.state import state_behind


def can_come(homes, row, value):
    """Whether a value is an event that can come behind a row."""
    state = state_behind(homes, row)
    if len(row) == MOST_EVENTS:
        raise NotNow("nothing can come behind a row of 64 events")
    return is_event(homes, value) and state.allows(value)


def gone(homes, row):
    """The deeds that are gone behind a row."""
    state = state_behind(homes, row)
    return tuple([deed for deed, is_gone in enumerate(state.is_gone) if is_gone])


def standing(homes, row):
    """The deeds done that are not gone behind a row."""
    return tuple(state_behind(homes, row).standing())


def words(homes, row):
    """The words of all things behind a row, whichever houses are up."""
    return tuple(state_behind(homes, row).words())


def ups(homes, row):
    """The houses that are up behind a row."""
    state = state_behind(homes, row)
    return tuple([house for house, is_up in enumerate(state.is_up) if is_up])


def needs(homes, row, deed):
    """The deeds that a deed needs."""
    state = state_behind(homes, row)
    check_done(state, deed)
    return state.needed[deed]


def leans(homes, row, deed):
    """The deeds on which a deed leans."""
    state = state_behind(homes, row)
    check_done(state, deed)
    return state.leaned[deed]


def unsafe(homes, row):
    """The cards of deeds not gone that are unsafe, or lost and not called yet."""
    return tuple(state_behind(homes, row).unsafe_cards())


def sure(homes, row):
    """The deeds not gone that lean on no deed with a card in unsafe."""
    state = state_behind(homes, row)
    risky = {deed: True for deed, _ in state.unsafe_cards()}
    found = []
    for deed in state.standing():
        if not any([other in risky for other in state.leaned[deed]]):
            found.append(deed)
    return tuple(found)


def check_done(state, deed):
    """Raises BadDeed for a value that is no number of a deed done."""
    if not is_number(deed, 0, len(state.is_gone) - 1):
        raise BadDeed("no number of a deed done")
