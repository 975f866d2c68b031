"""Point 1: the errors, and what holds for every function."""

import unittest

from keptabroad import deeds, errors, rows
from keptabroad.errors import BadDeed, BadDeeds, BadHomes, BadRow, InvalidText, KeepError, NotNow, TooMany
from tests.values import DEEDS, EVENTS, HOMES, WRONG_DEEDS, WRONG_EVENTS, WRONG_HOMES

NAMES = [
    "BadHomes", "BadDeeds", "BadRow", "BadDeed", "BadHouse", "BadHouses", "BadCard", "BadLot", "BadWishes",
    "NotNow", "NotMade", "TooMany", "NotText", "InvalidText", "NothingToUndo",
]
FIELDS = {"BadDeeds": "index", "BadRow": "index", "TooMany": "most", "InvalidText": "line"}
ROW_FUNCTIONS = [rows.gone, rows.standing, rows.words, rows.ups, rows.unsafe, rows.sure]
DEED_FUNCTIONS = [rows.needs, rows.leans]
FULL = (("sync", 0),) * 64


class ErrorClasses(unittest.TestCase):
    def test_base_class(self):
        self.assertEqual(KeepError.__bases__, (ValueError,))

    def test_every_error_is_a_direct_subclass(self):
        for name in NAMES:
            self.assertEqual(getattr(errors, name).__bases__, (KeepError,), name)
            self.assertEqual(getattr(errors, name).__module__, "keptabroad.errors")

    def test_there_are_no_further_errors(self):
        found = [name for name, value in vars(errors).items() if isinstance(value, type)]
        self.assertEqual(sorted(found), sorted(NAMES + ["KeepError"]))

    def test_fields(self):
        for name, field in FIELDS.items():
            for value in (0, 7, None):
                error = getattr(errors, name)(value)
                self.assertEqual(vars(error), {field: value})
                self.assertIsNone(getattr(getattr(errors, name)(**{field: None}), field))

    def test_fields_are_told_when_caught_as_value_error(self):
        with self.assertRaises(ValueError) as caught:
            raise InvalidText(3)
        self.assertEqual(caught.exception.line, 3)
        self.assertEqual(TooMany(2000).most, 2000)

    def test_errors_without_fields(self):
        for name in NAMES:
            if name not in FIELDS:
                self.assertEqual(vars(getattr(errors, name)()), {})


class OrderOfErrors(unittest.TestCase):
    """The error for the argument that stands first is raised, NotNow behind those of all arguments."""

    def test_homes_come_first(self):
        for homes in WRONG_HOMES:
            for function in ROW_FUNCTIONS:
                self.assertRaises(BadHomes, function, homes, None)
                self.assertRaises(BadHomes, function, homes, ())
            for function in DEED_FUNCTIONS:
                self.assertRaises(BadHomes, function, homes, None, None)
                self.assertRaises(BadHomes, function, homes, (), 0)
            self.assertRaises(BadHomes, rows.can_come, homes, None, None)
            self.assertRaises(BadHomes, rows.can_come, homes, FULL, ("sync", 0))
            self.assertRaises(BadHomes, deeds.plain, homes, None)
            self.assertRaises(BadHomes, deeds.plain, homes, ())
            self.assertRaises(BadHomes, deeds.is_deed, homes, None)
            self.assertRaises(BadHomes, deeds.is_deed, homes, DEEDS[0])
            self.assertRaises(BadHomes, deeds.houses_of, homes)

    def test_row_comes_before_deed(self):
        for function in DEED_FUNCTIONS:
            self.assertRaises(BadRow, function, HOMES, ("x",), None)
            self.assertRaises(BadRow, function, HOMES, FULL + (("sync", 0),), None)
            self.assertRaises(BadDeed, function, HOMES, EVENTS, None)

    def test_not_now_comes_behind_the_errors_of_all_arguments(self):
        wrong = (("up", 0),) + FULL[1:]
        with self.assertRaises(BadRow) as caught:
            rows.can_come(HOMES, wrong, ("sync", 0))
        self.assertEqual(caught.exception.index, 0)
        self.assertRaises(NotNow, rows.can_come, HOMES, FULL, ("sync", 0))

    def test_the_first_wrong_item_is_told(self):
        with self.assertRaises(BadRow) as caught:
            rows.gone(HOMES, EVENTS + (("up", 0), "x"))
        self.assertEqual(caught.exception.index, 3)
        with self.assertRaises(BadDeeds) as caught:
            deeds.plain(HOMES, DEEDS + (0, 1))
        self.assertEqual(caught.exception.index, 3)


class NothingIsChanged(unittest.TestCase):
    def test_wrong_arguments_stay_as_they_are(self):
        for value in WRONG_HOMES + WRONG_DEEDS + WRONG_EVENTS:
            before = repr(value)
            deeds.is_deed(HOMES, value)
            rows.can_come(HOMES, EVENTS, value)
            self.assertRaises(BadDeeds, deeds.plain, HOMES, (value,))
            self.assertRaises(BadRow, rows.gone, HOMES, (value,))
            self.assertRaises(BadDeed, rows.needs, HOMES, (), value)
            self.assertEqual(repr(value), before)

    def test_the_same_question_has_the_same_answer(self):
        row = EVENTS + (("fall", 1, ()),)
        before = rows.unsafe(HOMES, row)
        self.assertRaises(BadRow, rows.gone, HOMES, row + (("sync", 1),))
        self.assertTrue(rows.can_come(HOMES, row, ("up", 1)))
        self.assertEqual(rows.gone(HOMES, row + (("up", 1),)), (1, 2))
        self.assertEqual(rows.unsafe(HOMES, row), before)
        self.assertEqual(rows.gone(HOMES, row), ())

    def test_answers_are_new_and_plain(self):
        for function in ROW_FUNCTIONS:
            self.assertIs(type(function(HOMES, EVENTS)), tuple)
        for function in DEED_FUNCTIONS:
            self.assertIs(type(function(HOMES, EVENTS, 2)), tuple)
        self.assertIs(type(deeds.plain(HOMES, DEEDS)), tuple)
        for card in rows.unsafe(HOMES, EVENTS):
            self.assertIs(type(card), tuple)


if __name__ == "__main__":
    unittest.main()
