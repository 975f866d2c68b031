"""Points 14 and 15: which cards a house must keep, and how each can come to be the last one."""

import unittest

from keptabroad.errors import BadCard, BadHomes, BadHouse, BadRow, NotMade, NotNow
from keptabroad.keeps import must_keep, newest
from keptabroad.knows import alike_to, known_sure, marks
from keptabroad.rows import gone, needs, standing, sure
from tests.model import Told
from tests.values import (
    EVENTS, HOMES, NOT_TUPLES, WRONG_CARDS, WRONG_EVENTS, WRONG_HOMES, WRONG_HOUSE, read, word, write,
)

SYNCED = EVENTS + (("sync", 0), ("sync", 2))


class Interface(unittest.TestCase):
    def test_example(self):
        self.assertEqual(must_keep(HOMES, SYNCED, 0), ((0, 0), (2, 0)))
        self.assertEqual(newest(HOMES, SYNCED, (0, 0))[1], (("fall", 1, ()), ("up", 1)))

    def test_second_example(self):
        self.assertRaises(BadCard, newest, HOMES, SYNCED, (1, 0))


class MustKeep(unittest.TestCase):
    def test_no_cards(self):
        for house in (0, 1, 2):
            self.assertEqual(must_keep(HOMES, (), house), ())
        self.assertEqual(must_keep(HOMES, (word(0, 1),), 1), ())
        self.assertEqual(must_keep((0, 3), (word(0, 1), word(1, 1)), 2), ())

    def test_the_last_card_whatever_is_known(self):
        row = (word(0, 1),)
        self.assertEqual(must_keep(HOMES, row, 0), ((0, 0),))
        self.assertEqual(must_keep(HOMES, row + (("sync", 0),), 0), ((0, 0),))
        self.assertEqual(must_keep(HOMES, row + (("sync", 0), ("fall", 0, ()), ("up", 0)), 0), ((0, 0),))

    def test_an_earlier_card_until_the_next_is_known_safe(self):
        row = (word(0, 1), word(0, 2))
        self.assertEqual(must_keep(HOMES, row, 0), ((0, 0), (1, 0)))
        self.assertEqual(must_keep(HOMES, row + (("sync", 0),), 0), ((1, 0),))
        self.assertEqual(must_keep(HOMES, row[:1] + (("sync", 0),) + row[1:], 0), ((0, 0), (1, 0)))

    def test_a_card_further_back(self):
        row = (word(0, 1), word(0, 2), word(0, 3), ("sync", 0), word(0, 4), word(0, 5))
        self.assertEqual(marks(HOMES, row, 0), (3, 0, 0))
        self.assertEqual(must_keep(HOMES, row, 0), ((2, 0), (3, 0), (4, 0)))

    def test_cards_of_the_next_at_other_houses(self):
        row = (word(0, 1), write(0, 1, 2), ("sync", 0), ("sync", 1), ("send", 1, 0), ("hear", 0), ("sync", 2))
        self.assertEqual(sure(HOMES, row), (0, 1))
        self.assertEqual(must_keep(HOMES, row, 0), ((0, 0), (1, 0)))
        row += (("send", 2, 0),)
        self.assertEqual(must_keep(HOMES, row, 0), ((0, 0), (1, 0)))
        self.assertEqual(must_keep(HOMES, row + (("hear", 1),), 0), ((1, 0),))

    def test_cards_of_deeds_on_which_the_next_leans(self):
        row = (word(0, 1), word(1, 1), word(2, 1, 1), word(0, 2, 2))
        row += (("sync", 0), ("sync", 2), ("send", 2, 0), ("hear", 0))
        self.assertEqual(must_keep(HOMES, row, 0), ((0, 0), (3, 0)))
        row += (("sync", 1), ("send", 1, 0), ("hear", 1))
        self.assertEqual(must_keep(HOMES, row, 0), ((3, 0),))

    def test_cards_on_which_both_lean_do_not_count(self):
        row = (word(1, 1), word(0, 1, 1), word(0, 2, 1), ("sync", 0))
        self.assertEqual(known_sure(HOMES, row, 0), ())
        self.assertEqual(must_keep(HOMES, row, 0), ((2, 0),))
        newer = (word(1, 1), word(0, 1, 1), word(1, 2), word(0, 2, 1), ("sync", 0))
        self.assertEqual(must_keep(HOMES, newer, 0), ((1, 0), (3, 0)))

    def test_other_cards_of_the_deed_itself_do_not_count(self):
        row = (write(0, 1), word(0, 2), ("sync", 0))
        self.assertEqual(known_sure(HOMES, row, 0), ())
        self.assertEqual(must_keep(HOMES, row, 0), ((1, 0),))
        self.assertEqual(must_keep(HOMES, row, 1), ((0, 1),))

    def test_all_things_of_a_house_ascending(self):
        homes = (1, 0, 1, 1)
        row = (write(2, 3), write(0, 2), word(1, 1), write(0, 3), ("sync", 0))
        self.assertEqual(must_keep(homes, row, 1), ((0, 2), (0, 3), (1, 0), (1, 2), (3, 0), (3, 3)))
        self.assertEqual(must_keep(homes, row, 0), ((2, 1),))
        self.assertEqual(must_keep(homes, row + (("sync", 1),), 1), ((1, 2), (3, 0), (3, 3)))

    def test_cards_of_gone_deeds_do_not_count(self):
        row = (word(0, 1), ("sync", 0), word(1, 1), word(0, 2, 1), ("fall", 1, ()))
        self.assertEqual(must_keep(HOMES, row, 0), ((0, 0), (2, 0)))
        row += (("up", 1),)
        self.assertEqual(gone(HOMES, row), (1, 2))
        self.assertEqual(must_keep(HOMES, row, 0), ((0, 0),))
        self.assertEqual(must_keep(HOMES, row, 1), ())

    def test_the_next_one_is_the_next_standing_one(self):
        row = (word(0, 1), word(1, 1), read(0, 1), ("fall", 1, ()), ("up", 1), word(0, 3), ("sync", 0))
        self.assertEqual([standing(HOMES, row), needs(HOMES, row, 3)], [(0, 3), (0,)])
        self.assertEqual(must_keep(HOMES, row, 0), ((3, 0),))

    def test_cards_lost_and_not_called_yet(self):
        row = (word(0, 1), write(1, 2), word(0, 2, 1), ("sync", 0), ("fall", 2, ()))
        self.assertEqual(must_keep(HOMES, row, 0), ((0, 0), (2, 0)))
        self.assertEqual(must_keep(HOMES, row, 1), ((1, 1),))
        self.assertEqual(must_keep(HOMES, row + (("up", 2),), 0), ((0, 0),))

    def test_knowledge_that_was_forgotten(self):
        row = (word(0, 1), write(0, 1), ("sync", 1), ("send", 1, 0), ("hear", 0), ("sync", 0))
        self.assertEqual(must_keep(HOMES, row, 0), ((1, 0),))
        row += (("fall", 0, ()), ("up", 0))
        self.assertEqual(must_keep(HOMES, row, 0), ((0, 0), (1, 0)))

    def test_a_house_that_is_down(self):
        row = SYNCED + (("fall", 1, ()),)
        self.assertRaises(NotNow, must_keep, HOMES, row, 1)
        self.assertEqual(must_keep(HOMES, row, 0), ((0, 0), (2, 0)))

    def test_64_events(self):
        row = (word(0, 1),) * 64
        self.assertEqual(must_keep(HOMES, row, 0), tuple((deed, 0) for deed in range(64)))
        row = (word(0, 1),) * 63 + (("sync", 0),)
        self.assertEqual(must_keep(HOMES, row, 0), ((62, 0),))


class Newest(unittest.TestCase):
    def check(self, homes, row, card, one, more):
        """The pair is as told, is alike to the row, and has the card as the last one of its thing."""
        deed, thing = card
        self.assertEqual(newest(homes, row, card), (one, more))
        self.assertIn(card, must_keep(homes, row, homes[thing]))
        self.assertIs(alike_to(homes, row, one, homes[thing]), True)
        told = Told(homes, one + more)
        self.assertEqual(told.cards_of(thing)[-1], card)
        if len(one + more) <= 64:
            self.assertNotIn(deed, gone(homes, one + more))

    def test_the_last_card(self):
        self.check(HOMES, EVENTS, (2, 0), EVENTS, ())
        self.check(HOMES, EVENTS, (1, 1), EVENTS, ())
        self.check(HOMES, SYNCED, (2, 2), SYNCED, ())

    def test_the_next_is_lost_at_the_home_itself(self):
        row = (word(0, 1), word(0, 2))
        self.check(HOMES, row, (0, 0), row, (("fall", 0, ((0, 0),)), ("up", 0)))
        row = (word(0, 1), word(0, 2), word(0, 3))
        self.check(HOMES, row, (0, 0), row, (("fall", 0, ((0, 0), (2, 0))), ("up", 0)))
        self.check(HOMES, row, (1, 0), row, (("fall", 0, ((0, 0), (1, 0))), ("up", 0)))

    def test_the_next_is_lost_at_another_house(self):
        self.check(HOMES, SYNCED, (0, 0), SYNCED, (("fall", 1, ()), ("up", 1)))
        row = SYNCED + (("sync", 1),)
        self.check(HOMES, row, (0, 0), SYNCED, (("fall", 1, ()), ("up", 1)))

    def test_the_least_card_of_those_that_the_deed_does_not_lean_on(self):
        row = (word(1, 1), word(0, 1, 1), word(1, 2), word(2, 1), word(0, 2, 1, 2), ("sync", 0))
        self.check(HOMES, row, (1, 0), row, (("fall", 1, ((0, 1),)), ("up", 1)))
        row += (("sync", 1), ("send", 1, 0), ("hear", 0))
        self.check(HOMES, row, (1, 0), row, (("fall", 2, ()), ("up", 2)))

    def test_syncs_are_left_out(self):
        row = (word(0, 1), word(1, 1), ("sync", 1), ("send", 1, 0), ("hear", 0), ("sync", 1))
        row += (word(1, 2), ("sync", 1), word(0, 2, 1), ("sync", 0), ("sync", 1))
        self.assertEqual(marks(HOMES, row, 0), (4, 2, 0))
        self.check(HOMES, row, (0, 0), row[:7] + row[8:10], (("fall", 1, ()), ("up", 1)))

    def test_a_house_that_is_down(self):
        row = (word(0, 1), write(0, 1), ("sync", 0), word(1, 2), ("sync", 1), ("fall", 1, ()), word(2, 1))
        one = row[:4] + (("fall", 1, ((2, 1),)),) + row[6:]
        self.check(HOMES, row, (0, 0), one, (("up", 1),))

    def test_a_deed_that_has_a_lost_card_itself(self):
        row = (write(0, 1), word(1, 2), read(0, 1), ("sync", 0), ("fall", 1, ()))
        one = row[:4] + (("fall", 1, ((0, 1),)),)
        self.check(HOMES, row, (0, 0), one, (("up", 1),))

    def test_cards_of_gone_deeds_are_not_kept(self):
        row = (word(0, 1), word(0, 2), word(2, 1), read(0, 2), ("fall", 2, ()), ("up", 2))
        self.assertEqual(gone(HOMES, row), (2, 3))
        self.check(HOMES, row, (0, 0), row, (("fall", 0, ((0, 0),)), ("up", 0)))
        self.check(HOMES, row, (1, 0), row, ())

    def test_rows_of_64_events(self):
        row = (word(0, 1),) * 64
        kept = tuple((deed, 0) for deed in range(64))
        self.check(HOMES, row, (63, 0), row, ())
        self.check(HOMES, row, (62, 0), row, (("fall", 0, kept[:63]), ("up", 0)))
        self.check(HOMES, row, (0, 0), row, (("fall", 0, kept[:1] + kept[2:]), ("up", 0)))

    def test_cards_that_need_not_be_kept(self):
        row = (word(0, 1), word(0, 2), word(0, 3), ("sync", 0), word(0, 4), word(0, 5))
        for deed in (0, 1):
            self.assertRaises(NotMade, newest, HOMES, row, (deed, 0))
        for deed in (2, 3, 4):
            newest(HOMES, row, (deed, 0))
        self.assertRaises(NotMade, newest, HOMES, (word(1, 1), word(0, 1, 1), word(0, 2, 1), ("sync", 0)), (1, 0))


class WrongInputs(unittest.TestCase):
    def test_wrong_homes_and_rows(self):
        for function, good in ((must_keep, 0), (newest, (0, 0))):
            for homes in WRONG_HOMES:
                self.assertRaises(BadHomes, function, homes, EVENTS, good)
                self.assertRaises(BadHomes, function, homes, None, None)
            for value in NOT_TUPLES:
                self.assertRaises(BadRow, function, HOMES, value, good)
                self.assertRaises(BadRow, function, HOMES, value, None)
            for value in WRONG_EVENTS:
                with self.assertRaises(BadRow) as caught:
                    function(HOMES, EVENTS + (value,), good)
                self.assertEqual(caught.exception.index, 3)

    def test_wrong_houses(self):
        for row in ((), EVENTS, EVENTS + (("fall", 0, ()), ("fall", 1, ()), ("fall", 2, ()))):
            for value in WRONG_HOUSE:
                self.assertRaises(BadHouse, must_keep, HOMES, row, value)

    def test_wrong_cards(self):
        for row in (EVENTS, EVENTS + (("fall", 0, ()), ("fall", 1, ()))):
            for value in WRONG_CARDS:
                self.assertRaises(BadCard, newest, HOMES, row, value)
        for card in ((0, 0), (1, 1), (2, 0), (2, 2)):
            newest(HOMES, EVENTS, card)
            self.assertRaises(BadCard, newest, HOMES, (), card)

    def test_cards_of_gone_deeds(self):
        row = EVENTS + (("fall", 1, ()), ("up", 1))
        for card in ((1, 1), (2, 0), (2, 2)):
            self.assertRaises(BadCard, newest, HOMES, row, card)
        self.assertEqual(newest(HOMES, row, (0, 0)), (row, ()))

    def test_not_now(self):
        row = (word(0, 1), word(0, 2), ("sync", 0), word(1, 1), ("fall", 0, ()))
        self.assertRaises(NotNow, newest, HOMES, row, (0, 0))
        self.assertRaises(NotNow, newest, HOMES, row, (1, 0))
        self.assertRaises(BadCard, newest, HOMES, row, (2, 0))
        self.assertEqual(newest(HOMES, row, (2, 1)), (row, ()))
        self.assertRaises(NotMade, newest, HOMES, row[:3], (0, 0))


if __name__ == "__main__":
    unittest.main()
