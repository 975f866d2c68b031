"""What holds behind a row: houses, deeds, cards, marks and letters."""

from keptabroad.checks import is_tuple
from keptabroad.deeds import check_homes, houses_of, things_of, written
from keptabroad.errors import BadRow
from keptabroad.events import MOST_EVENTS, is_event

UNSAFE = "unsafe"
SAFE = "safe"
LOST = "lost"


class State:
    """The state behind a row, which takes one event after the other."""

    def __init__(self, homes):
        houses = houses_of(homes)
        self.homes = homes
        self.is_up = [True] * houses
        self.is_gone = []
        self.needed = []
        self.leaned = []
        self.wrote = []
        # Only cards of standing deeds are held: those of gone deeds are of no account.
        self.safety = {}
        # The marks of a house that is down are of no account: it has new ones when it comes up.
        self.marks = [[0] * houses for _ in range(houses)]
        # For each house the number of deeds done when it last came up.
        self.done_at_up = [0] * houses
        # The receiver of each letter, and the marks in it.
        self.letters = []

    def allows(self, event):
        """Whether a value that is an event can come now."""
        kind = event[0]
        if kind == "do":
            return all([self.is_up[self.homes[thing]] for thing in things_of(event[1:])])
        if kind == "hear":
            return event[1] < len(self.letters) and self.is_up[self.letters[event[1]][0]]
        if kind == "up":
            return not self.is_up[event[1]]
        if kind == "fall":
            return self.is_up[event[1]] and self.can_keep(event[1], event[2])
        return self.is_up[event[1]]

    def take(self, event):
        """Lets an event come that is allowed."""
        kind = event[0]
        if kind == "do":
            self.do_deed(event[1:])
        elif kind == "sync":
            self.sync(event[1])
        elif kind == "fall":
            self.fall(event[1], event[2])
        elif kind == "up":
            self.rise(event[1])
        elif kind == "send":
            self.letters.append((event[2], tuple(self.marks[event[1]])))
        else:
            self.hear(event[1])

    def standing(self):
        """The deeds done that are not gone, ascending."""
        return [deed for deed, is_gone in enumerate(self.is_gone) if not is_gone]

    def words(self):
        """The words of all things."""
        words = [0] * len(self.homes)
        for deed in self.standing():
            for thing, word in self.wrote[deed]:
                words[thing] = word
        return words

    def unsafe_cards(self):
        """The cards of standing deeds that are unsafe, or lost and not called yet, ascending."""
        return sorted([card for card, its in self.safety.items() if its != SAFE])

    def open_cards(self, house, deeds):
        """The cards of some deeds that are not known safe to a house, ascending if the deeds are."""
        known = self.marks[house]
        return [(deed, thing) for deed in deeds for thing, _ in self.wrote[deed] if deed >= known[self.homes[thing]]]

    def can_keep(self, house, keep):
        """Whether a house that falls now can keep these cards."""
        unsafe = self.cards_at(house, UNSAFE)
        return all([card in unsafe for card in keep])

    def cards_at(self, house, safety):
        """The cards at a house that are unsafe, safe or lost, as asked for."""
        return [card for card, its in self.safety.items() if its == safety and self.homes[card[1]] == house]

    def set_safety(self, cards, safety):
        """Makes cards unsafe, safe or lost."""
        for card in cards:
            self.safety[card] = safety

    def do_deed(self, deed):
        """Does a deed."""
        number = len(self.is_gone)
        last = self.last_writers()
        needed = sorted({last[thing] for thing in things_of(deed) if thing in last})
        reached = {number: True}
        for other in needed:
            for far in self.leaned[other]:
                reached[far] = True
        wrote = written(self.words(), deed)
        self.is_gone.append(False)
        self.needed.append(tuple(needed))
        self.leaned.append(tuple(sorted(reached)))
        self.wrote.append(wrote)
        self.set_safety([(number, thing) for thing, _ in wrote], UNSAFE)

    def last_writers(self):
        """For each thing that a standing deed wrote, the last such deed."""
        last = {}
        for deed in self.standing():
            for thing, _ in self.wrote[deed]:
                last[thing] = deed
        return last

    def sync(self, house):
        """Makes all cards at a house safe."""
        self.set_safety(self.cards_at(house, UNSAFE), SAFE)
        self.marks[house][house] = len(self.is_gone)

    def fall(self, house, keep):
        """Lets a house fall."""
        self.set_safety(self.cards_at(house, UNSAFE), LOST)
        self.set_safety(keep, SAFE)
        self.is_up[house] = False

    def rise(self, house):
        """Lets a house come up and call its lost cards."""
        self.is_up[house] = True
        self.mark_up(house)
        lost = self.cards_at(house, LOST)
        for deed in self.standing():
            if any([other in self.leaned[deed] for other, _ in lost]):
                self.lose(deed)

    def mark_up(self, house):
        """Sets the marks behind the up of a house: its own, and those that other houses have of it."""
        done = len(self.is_gone)
        self.done_at_up[house] = done
        self.marks[house] = list(self.done_at_up)
        for other, is_up in enumerate(self.is_up):
            if is_up:
                self.marks[other][house] = done

    def hear(self, letter):
        """Lets the house to which a letter was sent hear it."""
        house, told = self.letters[letter]
        self.marks[house] = [max(own, new) for own, new in zip(self.marks[house], told)]

    def lose(self, deed):
        """Makes a deed gone, with all its cards."""
        self.is_gone[deed] = True
        for thing, _ in self.wrote[deed]:
            del self.safety[(deed, thing)]


def state_behind(homes, row):
    """The state behind a row; raises BadHomes and BadRow for values that are none."""
    check_homes(homes)
    if not is_tuple(row, 0, MOST_EVENTS):
        raise BadRow(None)
    state = State(homes)
    for index, event in enumerate(row):
        if not is_event(homes, event) or not state.allows(event):
            raise BadRow(index)
        state.take(event)
    return state
