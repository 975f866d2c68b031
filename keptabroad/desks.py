"""A desk, which keeps a row and is told events and asked questions line by line."""

from keptabroad.deeds import check_homes
from keptabroad.errors import InvalidText, NothingToUndo, NotNow
from keptabroad.events import is_event, is_house
from keptabroad.keeps import must_keep
from keptabroad.knows import known_sure
from keptabroad.rows import can_come, gone, sure, words
from keptabroad.texts import card_text, check_text, event_in, number_in


class Desk:
    """A desk of homes."""

    def __init__(self, homes):
        check_homes(homes)
        self._homes = homes
        self._events = ()

    @property
    def row(self):
        """The row that the desk keeps."""
        return self._events

    def run(self, line):
        """Takes an event, or answers a question."""
        check_text(line)
        if line in ROW_QUESTIONS:
            ask = ROW_QUESTIONS[line]
            return numbers_text(ask(self._homes, self._events))
        word, _, rest = line.partition(" ")
        if word in HOUSE_QUESTIONS:
            answer = HOUSE_QUESTIONS[word]
            return answer(self._homes, self._events, self._house_in(rest))
        self._take(event_in(line))
        return None

    def undo(self):
        """Takes the last event back."""
        if self._events == ():
            raise NothingToUndo("the row has no event")
        self._events = self._events[:-1]

    def _house_in(self, text):
        """The house that a text tells."""
        house = number_in(text)
        if not is_house(self._homes, house):
            raise InvalidText(1)
        return house

    def _take(self, event):
        """Puts an event behind the row."""
        if not is_event(self._homes, event):
            raise InvalidText(1)
        # Behind 64 events can_come itself raises NotNow.
        if not can_come(self._homes, self._events, event):
            raise NotNow("the event cannot come")
        self._events = self._events + (event,)


def numbers_text(numbers):
    """The text of some numbers."""
    return " ".join([str(number) for number in numbers])


def known_text(homes, row, house):
    """The text of the deeds that are known sure to a house."""
    return numbers_text(known_sure(homes, row, house))


def kept_text(homes, row, house):
    """The text of the cards that a house must keep."""
    return " ".join([card_text(card) for card in must_keep(homes, row, house)])


ROW_QUESTIONS = {"words": words, "gone": gone, "sure": sure}
HOUSE_QUESTIONS = {"knows": known_text, "must": kept_text}
