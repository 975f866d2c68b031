"""Which cards a house must keep, and why."""

from keptabroad.errors import BadCard, NotMade
from keptabroad.events import is_card
from keptabroad.knows import check_up, doubt_of_card, state_for
from keptabroad.state import state_behind


def must_keep(homes, row, house):
    """The cards of all things of a house that must be kept."""
    state = state_for(homes, row, house)
    found = []
    for thing, home in enumerate(homes):
        if home == house:
            found.extend(must_keep_of(state, thing))
    return tuple(sorted(found))


def newest(homes, row, card):
    """A row alike to a row for the home of a card, and events behind it, behind which the card is the last one."""
    state = state_behind(homes, row)
    check_card(state, card)
    deed, thing = card
    house = homes[thing]
    check_up(state, house)
    later = later_writers(state, deed, thing)
    if not later:
        return row, ()
    cards = cards_in_doubt(state, house, deed, later[0])
    if not cards:
        raise NotMade("the card need not be kept")
    return doubt_of_card(state, row, house, cards[0])


def check_card(state, card):
    """Raises BadCard for a value that is not a card of a thing."""
    # The state holds the cards of standing deeds alone, and only what has the form of a card may be looked up.
    if not is_card(state.homes, card) or card not in state.safety:
        raise BadCard("not a card of a thing")


def must_keep_of(state, thing):
    """The cards of a thing that its home must keep."""
    house = state.homes[thing]
    found = []
    for deed in writers(state, thing):
        later = later_writers(state, deed, thing)
        if not later or cards_in_doubt(state, house, deed, later[0]):
            found.append((deed, thing))
    return found


def writers(state, thing):
    """The standing deeds that wrote a thing, ascending."""
    return [deed for deed in state.standing() if (deed, thing) in state.safety]


def later_writers(state, deed, thing):
    """The standing deeds behind a deed that wrote a thing, ascending."""
    return [other for other in writers(state, thing) if other > deed]


def cards_in_doubt(state, house, deed, following):
    """The cards not known safe to a house of the deeds on which the following one leans and a deed does not."""
    own = state.leaned[deed]
    return state.open_cards(house, [other for other in state.leaned[following] if other not in own])
