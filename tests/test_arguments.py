"""Point 1 for every function: which error a wrong argument raises, and in which order errors come."""

import unittest
from itertools import combinations

from keptabroad import deeds, desks, keeps, knows, lots, rows, syncs, texts
from keptabroad.errors import (
    BadCard, BadDeed, BadDeeds, BadHomes, BadHouse, BadHouses, BadLot, BadRow, BadWishes, InvalidText, NotMade, NotNow,
    NotText, TooMany,
)
from tests.values import (
    DEEDS, EVENTS, HOMES, NOT_INTEGERS, NOT_STRINGS, NOT_TUPLES, WRONG_CARDS, WRONG_DEEDS, WRONG_EVENTS, WRONG_HOMES,
    WRONG_HOUSE, WRONG_HOUSES, WRONG_LINES, WRONG_LOTS, WRONG_WISHES, read, word,
)

SYNCED = EVENTS + (("sync", 0), ("sync", 2))
DOWN = SYNCED + (("fall", 1, ()),)
FULL = (("sync", 0),) * 64


def with_index(error, values, index):
    return [(value, error, {"index": index}) for value in values]


# For each kind of argument the wrong values, the error that each raises, and its fields.
WRONG = {
    "homes": [(value, BadHomes, {}) for value in WRONG_HOMES],
    "deeds": with_index(BadDeeds, NOT_TUPLES + [DEEDS * 21, list(DEEDS), [None]], None)
    + with_index(BadDeeds, [DEEDS + (value, None) for value in WRONG_DEEDS + list(EVENTS)], 3)
    + with_index(BadDeeds, [(value,) + DEEDS for value in WRONG_DEEDS], 0),
    "row": with_index(BadRow, NOT_TUPLES + [FULL + (("sync", 0),), list(EVENTS), [None], (None,) * 65], None)
    + with_index(BadRow, [EVENTS + (value, None) for value in WRONG_EVENTS + list(DEEDS)], 3)
    + with_index(BadRow, [(("up", 0), None), (("hear", 0),), (("fall", 0, ((0, 0),)), 0)], 0)
    + with_index(BadRow, [DOWN + (event,) for event in (
        ("do", (), ((1, "word", 0),)), ("do", (1,), ((0, "word", 0),)), ("sync", 1), ("fall", 1, ()), ("up", 0),
        ("send", 1, 0), ("hear", 0), ("fall", 0, ((0, 0),)))], 6),
    "deed": [(value, BadDeed, {}) for value in NOT_INTEGERS + [-1, 3, 64, 10 ** 30]],
    "house": [(value, BadHouse, {}) for value in WRONG_HOUSE],
    "card": [(value, BadCard, {}) for value in WRONG_CARDS],
    "houses": [(value, BadHouses, {}) for value in WRONG_HOUSES],
    "lot": [(value, BadLot, {}) for value in WRONG_LOTS + [(1,), (2,), (0, 2), (1, 2)]],
    "wishes": [(value, BadWishes, {}) for value in WRONG_WISHES],
    "text": [(value, NotText, {}) for value in NOT_STRINGS]
    + [(line, InvalidText, {"line": 1}) for line in WRONG_LINES if line]
    + [("sync 0\n" + line, InvalidText, {"line": 2}) for line in WRONG_LINES]
    + [("\n".join(["sync 0"] * 70), InvalidText, {"line": 65})],
    "any": [],
}

# Of the wrong values those that are wrong whatever the row or the deeds are, where others may be right.
WRONG_EVERYWHERE = {
    "deed": [(value, BadDeed, {}) for value in NOT_INTEGERS + [-1, 64]],
    "card": [(value, BadCard, {}) for value in NOT_TUPLES + [
        (), (0,), (True, 0), (0, False), (0, 3), (-1, 0), (64, 0)]],
    "lot": [(value, BadLot, {}) for value in NOT_TUPLES + [(None,), (False,), (1, 0), (0, 0), (-1,), (64,)]],
    "wishes": [(value, BadWishes, {}) for value in NOT_TUPLES + [
        (0, 1), (None,), ((0, 0),), ((0, 61),), ((0, True),), ((0, 2), (0, 1)), ((0, 1), (0, 1))]],
}

# Arguments that are right, and fit each other.
GOOD = {
    "homes": HOMES, "deeds": DEEDS, "row": SYNCED, "deed": 2, "house": 0, "card": (0, 0), "houses": (0, 1), "lot": (0,),
    "wishes": ((0, 3), (2, 3)), "text": "sync 1\nfall 0\nup 0", "any": ("sync", 0),
}

CALLS = [
    (deeds.houses_of, "homes"),
    (deeds.is_deed, "homes any"),
    (deeds.plain, "homes deeds"),
    (rows.can_come, "homes row any"),
    (rows.gone, "homes row"),
    (rows.standing, "homes row"),
    (rows.words, "homes row"),
    (rows.ups, "homes row"),
    (rows.needs, "homes row deed"),
    (rows.leans, "homes row deed"),
    (rows.unsafe, "homes row"),
    (rows.sure, "homes row"),
    (knows.marks, "homes row house"),
    (knows.known_sure, "homes row house"),
    (knows.alike_to, "homes row row house"),
    (knows.doubt, "homes row house deed"),
    (knows.news, "homes row house deed"),
    (keeps.must_keep, "homes row house"),
    (keeps.newest, "homes row card"),
    (lots.exposed, "homes row houses"),
    (lots.lots, "homes row houses"),
    (lots.keep_for, "homes row houses lot"),
    (syncs.fewest_syncs, "homes deeds wishes"),
    (syncs.apart, "homes deeds wishes"),
    (syncs.synced_row, "homes deeds wishes"),
    (texts.write_row, "homes row"),
    (texts.read_row, "homes text"),
    (desks.Desk, "homes"),
]

CHAINS = tuple(word(thing, 1) for thing in (0, 1, 2) for _ in range(12))
SIXTY = DEEDS * 20

# Right arguments for which an error comes that stands behind those of all arguments.
BEHIND = [
    (rows.can_come, [HOMES, FULL, ("sync", 0)], NotNow, {}),
    (knows.marks, [HOMES, DOWN, 1], NotNow, {}),
    (knows.known_sure, [HOMES, DOWN, 1], NotNow, {}),
    (knows.alike_to, [HOMES, DOWN, SYNCED, 1], NotNow, {}),
    (knows.alike_to, [HOMES, SYNCED, DOWN, 1], NotNow, {}),
    (knows.alike_to, [HOMES, DOWN, DOWN, 1], NotNow, {}),
    (knows.doubt, [HOMES, DOWN, 1, 2], NotNow, {}),
    (knows.doubt, [HOMES, DOWN + (("up", 1),), 1, 2], NotMade, {}),
    (knows.doubt, [HOMES, SYNCED, 0, 0], NotMade, {}),
    (knows.news, [HOMES, DOWN, 1, 2], NotNow, {}),
    (knows.news, [HOMES, DOWN, 0, 2], NotMade, {}),
    (knows.news, [HOMES, DOWN + (("up", 1),), 1, 2], NotMade, {}),
    (keeps.must_keep, [HOMES, DOWN, 1], NotNow, {}),
    (keeps.newest, [HOMES, DOWN, (1, 1)], NotNow, {}),
    (keeps.newest, [HOMES, (word(0, 1), word(0, 2), read(1, 0), ("sync", 0)), (0, 0)], NotMade, {}),
    (lots.exposed, [HOMES, DOWN, (0, 1)], NotNow, {}),
    (lots.lots, [HOMES, DOWN, (0, 1)], NotNow, {}),
    (lots.lots, [HOMES, CHAINS, (0, 1, 2)], TooMany, {"most": 2000}),
    (lots.keep_for, [HOMES, DOWN, (0, 1), (0,)], NotNow, {}),
    (syncs.synced_row, [HOMES, SIXTY, tuple((deed, deed + 1) for deed in range(5))], NotMade, {}),
]


class ArgumentCase(unittest.TestCase):
    def fails(self, function, values, error, fields):
        before = repr(values)
        with self.assertRaises(error) as caught:
            function(*values)
        self.assertIs(type(caught.exception), error)
        self.assertEqual(vars(caught.exception), fields, (function, values))
        self.assertEqual(repr(values), before)


class OneWrongArgument(ArgumentCase):
    def test_right_arguments(self):
        for function, kinds in CALLS:
            function(*[GOOD[kind] for kind in kinds.split()])

    def test_each_wrong_value_at_each_place(self):
        for function, kinds in CALLS:
            kinds = kinds.split()
            for place, kind in enumerate(kinds):
                for value, error, fields in WRONG[kind]:
                    values = [GOOD[other] for other in kinds]
                    values[place] = value
                    self.fails(function, values, error, fields)

    def test_no_value_of_some_other_kind_is_taken(self):
        """What is right at one place is an error of its own at another one, never one of Python's."""
        for function, kinds in CALLS:
            kinds = kinds.split()
            for place, kind in enumerate(kinds):
                for other in GOOD.values():
                    values = [GOOD[each] for each in kinds]
                    values[place] = other
                    try:
                        function(*values)
                    except ValueError as error:
                        self.assertEqual(type(error).__module__, "keptabroad.errors", (function, values))


class TwoWrongArguments(ArgumentCase):
    def test_the_error_of_the_first_one_comes(self):
        for function, kinds in CALLS:
            kinds = kinds.split()
            for first, second in combinations(range(len(kinds)), 2):
                for one, error, fields in WRONG[kinds[first]]:
                    for other, _, _ in WRONG[kinds[second]][::9]:
                        values = [GOOD[kind] for kind in kinds]
                        values[first], values[second] = one, other
                        self.fails(function, values, error, fields)

    def test_all_wrong_at_once(self):
        for function, kinds in CALLS:
            kinds = kinds.split()
            for first, kind in enumerate(kinds):
                for one, error, fields in WRONG[kind]:
                    values = [GOOD[other] for other in kinds[:first]] + [one] + [None] * (len(kinds) - first - 1)
                    self.fails(function, values, error, fields)


class ErrorsBehindThoseOfArguments(ArgumentCase):
    def test_each(self):
        for function, values, error, fields in BEHIND:
            self.fails(function, values, error, fields)

    def test_every_wrong_argument_comes_ahead(self):
        kinds_of = {function: kinds.split() for function, kinds in CALLS}
        for function, values, _, _ in BEHIND:
            for place, kind in enumerate(kinds_of[function]):
                for value, error, fields in WRONG_EVERYWHERE.get(kind, WRONG[kind]):
                    self.fails(function, values[:place] + [value] + values[place + 1:], error, fields)

    def test_too_many_comes_ahead_of_bad_lot(self):
        for value, _, _ in WRONG["lot"]:
            self.fails(lots.keep_for, [HOMES, CHAINS, (0, 1, 2), value], TooMany, {"most": 2000})
        for kind, place in (("homes", 0), ("row", 1), ("houses", 2)):
            for value, error, fields in WRONG[kind]:
                values = [HOMES, CHAINS, (0, 1, 2), None]
                values[place] = value
                self.fails(lots.keep_for, values, error, fields)

    def test_the_first_of_not_now_and_others(self):
        self.fails(knows.doubt, [HOMES, DOWN + (("up", 1), ("fall", 1, ())), 1, 2], NotNow, {})
        self.fails(knows.news, [HOMES, DOWN + (("up", 1), ("fall", 1, ())), 1, 2], NotNow, {})
        self.fails(keeps.newest, [HOMES, (word(0, 1), word(0, 2), ("sync", 0), ("fall", 0, ())), (0, 0)], NotNow, {})
        self.fails(lots.lots, [HOMES, CHAINS + (("fall", 1, ()),), (0, 1, 2)], NotNow, {})


class Truth(unittest.TestCase):
    """True and False are not integers."""

    def test_no_truth_stands_for_a_number(self):
        for function, kinds in CALLS:
            kinds = kinds.split()
            for place in range(len(kinds)):
                if kinds[place] == "any":
                    continue
                values = [GOOD[kind] for kind in kinds]
                for changed in swapped(values[place]):
                    values[place] = changed
                    with self.assertRaises(ValueError) as caught:
                        function(*values)
                    self.assertEqual(type(caught.exception).__module__, "keptabroad.errors")

    def test_answers_have_no_truth_for_a_number(self):
        for function, kinds in CALLS[:-1]:
            answer = function(*[GOOD[kind] for kind in kinds.split()])
            if not isinstance(answer, bool):
                self.assertEqual(list(swapped(answer, (bool,))), [], function)

    def test_swapped_finds_each_number(self):
        self.assertEqual(list(map(repr, swapped((0, ("a", 1), 2)))), ["(False, ('a', 1), 2)", "(0, ('a', True), 2)"])


def swapped(value, kinds=(int,)):
    """A value with one of its numbers 0 and 1 at a time told as False or True."""
    if type(value) in kinds and value in (0, 1):
        yield bool(value)
    if isinstance(value, tuple):
        for place, part in enumerate(value):
            for changed in swapped(part, kinds):
                yield value[:place] + (changed,) + value[place + 1:]


if __name__ == "__main__":
    unittest.main()
