"""What a house can know of a row, and a row that looks alike to it for all that it cannot know."""

from keptabroad.errors import BadHouse, NotMade, NotNow
from keptabroad.events import is_house
from keptabroad.rows import check_done
from keptabroad.state import UNSAFE, state_behind


def marks(homes, row, house):
    """The marks of a house that is up."""
    return tuple(state_for(homes, row, house).marks[house])


def known_sure(homes, row, house):
    """The standing deeds all cards of which, and of those on which they lean, are known safe to a house."""
    state = state_for(homes, row, house)
    return tuple([deed for deed in state.standing() if not state.open_cards(house, state.leaned[deed])])


def alike_to(homes, one, other, house):
    """Whether two rows are alike to a house that is up behind both."""
    first = state_behind(homes, one)
    second = state_behind(homes, other)
    check_house(homes, house)
    check_up(first, house)
    check_up(second, house)
    return deeds_in(one) == deeds_in(other) and seen_by(first, house) == seen_by(second, house)


def doubt(homes, row, house, deed):
    """A row alike to a row for a house, and the events behind it that make a deed gone."""
    state = state_for_deed(homes, row, house, deed)
    cards = state.open_cards(house, state.leaned[deed])
    if state.is_gone[deed] or not cards:
        raise NotMade("the deed is gone or known sure")
    return doubt_of_card(state, row, house, cards[0])


def news(homes, row, house, deed):
    """The fewest syncs, sends and hears behind which a deed is known sure to a house."""
    state = state_for_deed(homes, row, house, deed)
    if state.is_gone[deed]:
        raise NotMade("the deed is gone")
    cards = state.open_cards(house, state.leaned[deed])
    syncs = sorted({homes[thing] for number, thing in cards if state.safety[(number, thing)] == UNSAFE})
    # The cards are ascending: of those at one house the last one stays.
    greatest = {homes[thing]: number for number, thing in cards if homes[thing] != house}
    senders = fewest_senders(state, house, greatest)
    letters = len(state.letters)
    events = [("sync", other) for other in syncs]
    events.extend([("send", sender, house) for sender in senders])
    events.extend([("hear", letters + index) for index in range(len(senders))])
    return tuple(events)


def state_for(homes, row, house):
    """The state behind a row, for a house that is up."""
    state = state_behind(homes, row)
    check_house(homes, house)
    check_up(state, house)
    return state


def state_for_deed(homes, row, house, deed):
    """The state behind a row, for a house that is up and a deed that was done."""
    state = state_behind(homes, row)
    check_house(homes, house)
    check_done(state, deed)
    check_up(state, house)
    return state


def check_house(homes, house):
    """Raises BadHouse for a value that is no house."""
    if not is_house(homes, house):
        raise BadHouse("no house")


def check_up(state, house):
    """Raises NotNow for a house that is not up."""
    if not state.is_up[house]:
        raise NotNow("the house is not up")


def deeds_in(row):
    """The deeds of a row, in the order in which they were done."""
    return [event for event in row if event[0] == "do"]


def seen_by(state, house):
    """What rows of the same deeds must have in common to be alike to a house."""
    return state.is_gone, state.is_up, state.marks[house]


def doubt_of_card(state, row, house, card):
    """A row alike to a row for a house, and the events behind it that lose a card not known safe to the house."""
    home = state.homes[card[1]]
    one = without_syncs(row, home, state.marks[house][home])
    if state.is_up[home]:
        return one, (fall_without(state.homes, one, home, card), ("up", home))
    last = max([place for place, event in enumerate(one) if event[0] == "fall" and event[1] == home])
    fall = fall_without(state.homes, one[:last], home, card)
    return one[:last] + (fall,) + one[last + 1:], (("up", home),)


def without_syncs(row, house, most):
    """A row without the syncs of a house ahead of which more than most deeds have been done."""
    left = []
    done = 0
    for event in row:
        if event[0] == "do":
            done += 1
        if event != ("sync", house) or done <= most:
            left.append(event)
    return tuple(left)


def fall_without(homes, row, house, card):
    """The fall of a house behind a row that keeps all its unsafe cards but one."""
    cards = state_behind(homes, row).cards_at(house, UNSAFE)
    return "fall", house, tuple(sorted([other for other in cards if other != card]))


def fewest_senders(state, house, greatest):
    """The least of the fewest other houses that together tell of the open cards, the greatest told for each home."""
    others = [other for other, is_up in enumerate(state.is_up) if is_up and other != house]
    groups = [()]
    while groups:
        for group in groups:
            if tell_all(state, group, greatest):
                return group
        # Each step keeps the groups of one size ascending, so that the first one that tells is the least.
        groups = [group + (other,) for group in groups for other in others if group == () or group[-1] < other]
    raise NotMade("nobody that is up can tell")


def tell_all(state, group, greatest):
    """Whether some houses together tell of all open cards."""
    for home, number in greatest.items():
        if not any([other == home or state.marks[other][home] > number for other in group]):
            return False
    return True
