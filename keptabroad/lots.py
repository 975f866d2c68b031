"""Which lots of deeds can come of falls."""

from keptabroad.checks import is_number, is_rising
from keptabroad.errors import BadHouses, BadLot, TooMany
from keptabroad.events import LAST_NUMBER, is_house
from keptabroad.knows import check_up
from keptabroad.state import UNSAFE, state_behind

MOST_LOTS = 2000


def exposed(homes, row, houses):
    """The standing deeds that lean on a card in unsafe at one of some houses."""
    state = state_of_houses(homes, row, houses)
    check_all_up(state, houses)
    needed = needed_at_risk(state, houses)
    return tuple([deed for deed in state.standing() if needed[deed]])


def lots(homes, row, houses):
    """The lots of deeds that can stand if some houses fall now, keep any of their cards, and come up."""
    state = state_of_houses(homes, row, houses)
    check_all_up(state, houses)
    return lots_of(state, houses)


def keep_for(homes, row, houses, lot):
    """The falls and ups of some houses behind which just a lot stands."""
    state = state_of_houses(homes, row, houses)
    # TooMany comes ahead of BadLot; but no lots can come of houses that are not up, so that there are none to count.
    if all([state.is_up[house] for house in houses]):
        lots_of(state, houses)
    if not is_lot(state, houses, lot):
        raise BadLot("none of the lots")
    check_all_up(state, houses)
    falls = [("fall", house, kept_at(state, house, lot)) for house in houses]
    return tuple(falls + [("up", house) for house in houses])


def state_of_houses(homes, row, houses):
    """The state behind a row, for a tuple of houses."""
    state = state_behind(homes, row)
    if not isinstance(houses, tuple) or not all([is_house(homes, house) for house in houses]) or not is_rising(houses):
        raise BadHouses("houses are an ascending tuple of unlike ones")
    return state


def check_all_up(state, houses):
    """Raises NotNow if one of some houses is not up."""
    for house in houses:
        check_up(state, house)


def needed_at_risk(state, houses):
    """For each standing deed those on which it leans that have a card in unsafe at one of some houses."""
    risky = {deed: True for deed, thing in state.unsafe_cards() if state.homes[thing] in houses}
    return {deed: [other for other in state.leaned[deed] if other in risky] for deed in state.standing()}


def is_lot(state, houses, lot):
    """Whether a value is one of the lots: it holds a deed just if it holds all at risk on which that one leans."""
    # True and False are equal to 1 and 0, but they are no deeds.
    if not isinstance(lot, tuple) or not all([is_number(deed, 0, LAST_NUMBER) for deed in lot]):
        return False
    needed = needed_at_risk(state, houses)
    return lot == tuple([deed for deed in needed if all([other in lot for other in needed[deed]])])


def lots_of(state, houses):
    """The lots, ascending; raises TooMany if there are more than 2000."""
    needed = needed_at_risk(state, houses)
    # Some deeds are held as a number with a bit for each, so that whether others are among them is told at once.
    bits = {deed: sum([1 << other for other in needed[deed]]) for deed in needed}
    # A lot is told by those of its deeds that are at risk themselves.
    risky = [deed for deed in needed if deed in needed[deed]]
    saved = [0]
    for deed in risky:
        own = 1 << deed
        others = bits[deed] - own
        saved = saved + [some | own for some in saved if (some & others) == others]
        # They grow only: what is too many here stays too many.
        if len(saved) > MOST_LOTS:
            raise TooMany(MOST_LOTS)
    return tuple(sorted([lot_with(bits, some) for some in saved]))


def lot_with(bits, saved):
    """The lot of which just some of the deeds at risk are saved."""
    return tuple([deed for deed in bits if (bits[deed] & saved) == bits[deed]])


def kept_at(state, house, lot):
    """The unsafe cards at a house of the deeds of a lot."""
    return tuple(sorted([card for card in state.cards_at(house, UNSAFE) if card[0] in lot]))
