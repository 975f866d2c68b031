"""Points 4, 6 and 7: events, rows, and what can come when."""

import unittest

from keptabroad.errors import BadHomes, BadRow, NotNow
from keptabroad.events import is_event
from keptabroad.rows import can_come, gone, leans, needs, standing, sure, unsafe, ups, words
from tests.values import EVENTS, HOMES, NOT_TUPLES, WRONG_EVENTS, WRONG_HOMES

ROW_FUNCTIONS = [
    gone, standing, words, ups, unsafe, sure,
    lambda homes, row: needs(homes, row, 0),
    lambda homes, row: leans(homes, row, 0),
    lambda homes, row: can_come(homes, row, ("sync", 0)),
]


def word(thing, n, *reads):
    return "do", tuple(reads), ((thing, "word", n),)


class EventCase(unittest.TestCase):
    def fits(self, homes, row, event):
        """An event that can come: can_come and all functions of a row agree."""
        self.assertIs(can_come(homes, row, event), True, event)
        ups(homes, row + (event,))

    def fails(self, homes, row, event):
        """A value that cannot come: can_come and all functions of a row agree."""
        self.assertIs(can_come(homes, row, event), False, event)
        for function in ROW_FUNCTIONS:
            for behind in ((), (("sync", 0), None)):
                with self.assertRaises(BadRow) as caught:
                    function(homes, (row + (event,) + behind)[:64])
                self.assertEqual(caught.exception.index, len(row))
                self.assertIs(type(caught.exception.index), int)


class Forms(EventCase):
    def test_interface(self):
        self.assertIs(can_come(HOMES, EVENTS, ("up", 0)), False)

    def test_each_event(self):
        self.fits(HOMES, (), ("do", (0, 1, 2), ((0, "sum", 999), (1, "word", 0), (2, "word", 999))))
        self.fits(HOMES, (), ("sync", 2))
        self.fits(HOMES, (), ("fall", 2, ()))
        self.fits(HOMES, (("fall", 2, ()),), ("up", 2))
        self.fits(HOMES, (), ("send", 2, 0))
        self.fits(HOMES, (("send", 2, 0),), ("hear", 0))

    def test_wrong_events(self):
        for row in ((), EVENTS, (("fall", 0, ()),), (("send", 0, 1), ("send", 1, 0))):
            for value in WRONG_EVENTS:
                self.fails(HOMES, row, value)

    def test_wrong_events_are_none_whatever_can_come(self):
        for value in WRONG_EVENTS:
            self.assertIs(is_event(HOMES, value), False, value)
        for value in EVENTS + (("up", 0), ("hear", 5), ("fall", 0, ((5, 1), (5, 2), (6, 0)))):
            self.assertIs(is_event(HOMES, value), True, value)

    def test_deeds_within_events(self):
        self.fails((0,), (), ("do", (), ((0, "word", 1000),)))
        self.fails((0,), (), ("do", (), ((1, "word", 0),)))
        self.fails((0,), (), ("do", (1,), ((0, "word", 0),)))
        self.fails((0,), (), ("do", (), ()))
        self.fits((0,), (), ("do", (), ((0, "word", 999),)))

    def test_houses_of_events(self):
        for homes in ((0,), (1,), (2,), (3,), (0, 3), (3, 0, 3, 0, 3, 0)):
            last = max(homes)
            for house in range(5):
                test = self.fits if house <= last else self.fails
                test(homes, (), ("sync", house))
                test(homes, (), ("fall", house, ()))
                if house:
                    test(homes, (), ("send", 0, house))
                    test(homes, (), ("send", house, 0))

    def test_a_house_without_things(self):
        homes = (0, 3)
        for house in (1, 2):
            self.fits(homes, (), ("sync", house))
            row = (("fall", house, ()),)
            self.assertEqual(ups(homes, row), tuple(sorted({0, 1, 2, 3} - {house})))
            self.fails(homes, row, ("fall", house, ()))
            self.fits(homes, row, ("up", house))
            self.fits(homes, row, word(0, 1))
            self.fits(homes, row, ("send", 0, house))
            self.fails(homes, row, ("send", house, 0))
            self.fails(homes, row + (("send", 0, house),), ("hear", 0))

    def test_one_house_has_nobody_to_send_to(self):
        self.fails((0, 0), (), ("send", 0, 0))
        self.fails((0, 0), (), ("send", 0, 1))

    def test_numbers_63_and_64(self):
        for number, answer in ((-1, False), (0, True), (63, True), (64, False)):
            self.assertIs(is_event(HOMES, ("hear", number)), answer)
            self.assertIs(is_event(HOMES, ("fall", 0, ((number, 0),))), answer)
            self.assertIs(is_event(HOMES, ("fall", 0, ((0, 0), (number, 1)))), answer)

    def test_letters_63_and_64(self):
        row = (("send", 0, 1),) * 63
        self.fits(HOMES, row, ("hear", 62))
        self.fails(HOMES, row, ("hear", 63))
        self.fails(HOMES, row, ("hear", 64))

    def test_kept_deeds_63_and_64(self):
        row = (word(0, 1),) * 63
        self.fits(HOMES, row, ("fall", 0, ((62, 0),)))
        self.fails(HOMES, row, ("fall", 0, ((63, 0),)))
        self.fails(HOMES, row, ("fall", 0, ((64, 0),)))


class Rows(EventCase):
    def test_no_tuple_of_events(self):
        for value in NOT_TUPLES + [[("sync", 0)], {0: ("sync", 0)}, {("sync", 0): 0}]:
            for function in ROW_FUNCTIONS:
                with self.assertRaises(BadRow) as caught:
                    function(HOMES, value)
                self.assertIsNone(caught.exception.index)

    def test_64_and_65_events(self):
        row = (("sync", 0),) * 64
        self.assertEqual(ups(HOMES, row), (0, 1, 2))
        for long in (row + (("sync", 0),), (None,) * 65, row * 3):
            for function in ROW_FUNCTIONS:
                with self.assertRaises(BadRow) as caught:
                    function(HOMES, long)
                self.assertIsNone(caught.exception.index)

    def test_64_deeds(self):
        row = (word(0, 1),) * 64
        self.assertEqual(standing(HOMES, row), tuple(range(64)))
        self.assertEqual(leans(HOMES, row, 63), tuple(range(64)))
        self.assertEqual(needs(HOMES, row, 63), (62,))

    def test_an_event_is_no_row(self):
        with self.assertRaises(BadRow) as caught:
            ups(HOMES, ("sync", 0))
        self.assertEqual(caught.exception.index, 0)

    def test_the_first_wrong_item(self):
        for index in (0, 1, 31, 63):
            row = (("sync", 0),) * index + (("up", 0),) + (("sync", True),) * (63 - index)
            for function in ROW_FUNCTIONS:
                with self.assertRaises(BadRow) as caught:
                    function(HOMES, row)
                self.assertEqual(caught.exception.index, index)

    def test_can_come_behind_63_and_64(self):
        self.assertIs(can_come(HOMES, (("sync", 0),) * 63, ("sync", 1)), True)
        self.assertIs(can_come(HOMES, (("sync", 0),) * 63, ("up", 1)), False)
        for value in [("sync", 1), ("up", 1)] + WRONG_EVENTS:
            self.assertRaises(NotNow, can_come, HOMES, (("sync", 0),) * 64, value)

    def test_wrong_homes(self):
        for homes in WRONG_HOMES:
            for function in ROW_FUNCTIONS:
                self.assertRaises(BadHomes, function, homes, EVENTS)


class WhatCanCome(EventCase):
    DOWN = (("fall", 1, ()),)

    def test_all_houses_are_up_at_first(self):
        for house in (0, 1, 2):
            self.fits(HOMES, (), ("sync", house))
            self.fails(HOMES, (), ("up", house))
            self.fits(HOMES, (), word(house, 1))

    def test_do_needs_the_homes_of_all_reads_and_writes(self):
        self.fits(HOMES, self.DOWN, word(0, 1))
        self.fits(HOMES, self.DOWN, ("do", (0, 2), ((0, "sum", 1), (2, "sum", 1))))
        self.fails(HOMES, self.DOWN, word(1, 1))
        self.fails(HOMES, self.DOWN, word(0, 1, 1))
        self.fails(HOMES, self.DOWN, word(0, 1, 0, 1, 2))
        self.fails(HOMES, self.DOWN, ("do", (), ((0, "word", 1), (1, "word", 1))))
        self.fails(HOMES, self.DOWN, ("do", (), ((0, "word", 1), (1, "word", 1), (2, "word", 1))))
        self.fits(HOMES, self.DOWN + (("up", 1),), ("do", (0, 1, 2), ((0, "word", 1), (1, "word", 1))))

    def test_do_looks_at_homes_not_at_things(self):
        homes = (1, 0, 1)
        self.fails(homes, self.DOWN, word(0, 1))
        self.fits(homes, self.DOWN, word(1, 1))
        self.fails(homes, self.DOWN, word(1, 1, 2))

    def test_sync_fall_and_up(self):
        self.fails(HOMES, self.DOWN, ("sync", 1))
        self.fails(HOMES, self.DOWN, ("fall", 1, ()))
        self.fits(HOMES, self.DOWN, ("up", 1))
        self.fails(HOMES, self.DOWN + (("up", 1),), ("up", 1))
        self.fits(HOMES, self.DOWN, ("sync", 0))
        self.fits(HOMES, self.DOWN, ("fall", 0, ()))
        self.fits(HOMES, self.DOWN + (("up", 1),), ("fall", 1, ()))

    def test_send(self):
        self.fits(HOMES, self.DOWN, ("send", 0, 1))
        self.fits(HOMES, self.DOWN, ("send", 0, 2))
        self.fails(HOMES, self.DOWN, ("send", 1, 0))

    def test_hear(self):
        self.fails(HOMES, (), ("hear", 0))
        row = (("send", 0, 1), ("send", 1, 2))
        self.fits(HOMES, row, ("hear", 0))
        self.fits(HOMES, row, ("hear", 1))
        self.fails(HOMES, row, ("hear", 2))
        self.fails(HOMES, row + self.DOWN, ("hear", 0))
        self.fits(HOMES, row + self.DOWN, ("hear", 1))
        self.fits(HOMES, row + self.DOWN + (("up", 1),), ("hear", 0))

    def test_the_sender_of_a_letter_may_be_down(self):
        row = (("send", 1, 0), ("fall", 1, ()))
        self.fits(HOMES, row, ("hear", 0))

    def test_a_letter_to_a_house_that_is_down(self):
        row = self.DOWN + (("send", 0, 1),)
        self.fails(HOMES, row, ("hear", 0))
        self.fits(HOMES, row + (("up", 1),), ("hear", 0))

    def test_a_letter_is_heard_late_and_more_than_once(self):
        row = (("send", 0, 1), ("send", 0, 1))
        late = row + (("hear", 1),) + EVENTS + (("fall", 1, ()), ("up", 1))
        self.fits(HOMES, late, ("hear", 0))
        self.fits(HOMES, late + (("hear", 0),), ("hear", 0))
        self.fits(HOMES, late + (("hear", 0), ("hear", 1)), ("hear", 1))
        self.assertEqual(gone(HOMES, late + (("hear", 0),) * 3), (1, 2))

    def test_letters_change_nothing_of_deeds(self):
        letters = (("send", 0, 1), ("hear", 0), ("send", 2, 0), ("hear", 1))
        for function in (gone, standing, words, ups, unsafe, sure):
            self.assertEqual(function(HOMES, EVENTS + letters), function(HOMES, EVENTS))


class WhatCanBeKept(EventCase):
    def test_unsafe_cards_at_the_house_alone(self):
        self.fits(HOMES, EVENTS, ("fall", 0, ()))
        self.fits(HOMES, EVENTS, ("fall", 0, ((0, 0),)))
        self.fits(HOMES, EVENTS, ("fall", 0, ((2, 0),)))
        self.fits(HOMES, EVENTS, ("fall", 0, ((0, 0), (2, 0))))
        self.fails(HOMES, EVENTS, ("fall", 0, ((1, 1),)))
        self.fails(HOMES, EVENTS, ("fall", 0, ((0, 0), (2, 2))))
        self.fits(HOMES, EVENTS, ("fall", 2, ((2, 2),)))

    def test_cards_that_are_none(self):
        self.fails(HOMES, (), ("fall", 0, ((0, 0),)))
        self.fails(HOMES, EVENTS, ("fall", 0, ((1, 0),)))
        self.fails(HOMES, EVENTS, ("fall", 0, ((3, 0),)))
        self.fails(HOMES, EVENTS, ("fall", 0, ((63, 0),)))

    def test_several_things_at_a_house(self):
        homes = (1, 1, 0)
        row = (("do", (), ((0, "word", 1), (1, "word", 1), (2, "word", 1))),)
        self.fits(homes, row, ("fall", 1, ((0, 0), (0, 1))))
        self.fails(homes, row, ("fall", 1, ((0, 0), (0, 1), (0, 2))))
        self.fits(homes, row, ("fall", 0, ((0, 2),)))

    def test_synced_cards_are_not_unsafe(self):
        row = EVENTS + (("sync", 0),)
        self.fails(HOMES, row, ("fall", 0, ((0, 0),)))
        self.fits(HOMES, row, ("fall", 1, ((1, 1),)))
        self.fits(HOMES, row + (word(0, 1),), ("fall", 0, ((3, 0),)))
        self.fails(HOMES, row + (word(0, 1),), ("fall", 0, ((2, 0), (3, 0))))

    def test_cards_kept_are_not_unsafe_from_then_on(self):
        row = EVENTS + (("fall", 0, ((0, 0), (2, 0))), ("up", 0))
        self.fits(HOMES, row, ("fall", 0, ()))
        self.fails(HOMES, row, ("fall", 0, ((0, 0),)))
        self.fails(HOMES, row, ("fall", 0, ((2, 0),)))

    def test_lost_cards_cannot_be_kept_later(self):
        row = EVENTS + (("fall", 0, ((0, 0),)), ("up", 0))
        self.assertEqual(gone(HOMES, row), (2,))
        self.fails(HOMES, row, ("fall", 0, ((2, 0),)))

    def test_cards_of_gone_deeds_cannot_be_kept(self):
        row = EVENTS + (("fall", 1, ()), ("up", 1))
        self.assertEqual(gone(HOMES, row), (1, 2))
        self.fits(HOMES, row, ("fall", 0, ((0, 0),)))
        self.fails(HOMES, row, ("fall", 0, ((2, 0),)))
        self.fails(HOMES, row, ("fall", 0, ((0, 0), (2, 0))))
        self.fails(HOMES, row, ("fall", 2, ((2, 2),)))

    def test_cards_of_deeds_not_called_yet_can_be_kept(self):
        row = EVENTS + (("fall", 1, ()),)
        self.fits(HOMES, row, ("fall", 0, ((0, 0), (2, 0))))
        self.fits(HOMES, row, ("fall", 2, ((2, 2),)))


if __name__ == "__main__":
    unittest.main()
