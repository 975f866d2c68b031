"""Point 20: the fewest syncs and letters behind which a deed is known sure."""

import unittest

from keptabroad.errors import BadDeed, BadHomes, BadHouse, BadRow, NotMade, NotNow
from keptabroad.knows import known_sure, marks, news
from keptabroad.rows import gone, sure, unsafe
from tests.model import Told
from tests.values import EVENTS, HOMES, NOT_INTEGERS, NOT_TUPLES, WRONG_EVENTS, WRONG_HOMES, WRONG_HOUSE, word, write

FOUR = (0, 1, 2, 3)
ALL_SYNCED = (write(1, 2, 3), ("sync", 1), ("sync", 2), ("sync", 3))


class NewsCase(unittest.TestCase):
    def check(self, homes, row, house, deed, events):
        """The events are as told, make the deed known sure, and are the best of all syncs and letters."""
        self.assertEqual(news(homes, row, house, deed), events)
        told = Told(homes, row)
        self.assertIn(deed, told.then(events).known_sure(house))
        self.assertEqual(told.news(house, deed), events)
        if len(row + events) <= 64:
            self.assertIn(deed, known_sure(homes, row + events, house))


class Ordinary(NewsCase):
    def test_known_sure_already(self):
        row = EVENTS + (("sync", 0),)
        self.check(HOMES, row, 0, 0, ())
        row += (("sync", 1), ("send", 1, 0), ("hear", 0))
        self.check(HOMES, row, 0, 0, ())
        self.check(HOMES, row, 0, 1, ())

    def test_the_house_itself_syncs(self):
        self.check(HOMES, EVENTS, 0, 0, (("sync", 0),))
        self.check(HOMES, (word(1, 1), word(1, 2)), 1, 1, (("sync", 1),))

    def test_another_house_syncs_and_tells(self):
        self.check(HOMES, EVENTS, 1, 0, (("sync", 0), ("send", 0, 1), ("hear", 0)))

    def test_the_house_itself_and_others_sync(self):
        self.check(HOMES, EVENTS, 0, 1, (("sync", 0), ("sync", 1), ("send", 1, 0), ("hear", 0)))
        self.check(HOMES, EVENTS, 0, 2, (
            ("sync", 0), ("sync", 1), ("sync", 2), ("send", 1, 0), ("send", 2, 0), ("hear", 0), ("hear", 1)))
        self.check(HOMES, EVENTS, 1, 2, (
            ("sync", 0), ("sync", 1), ("sync", 2), ("send", 0, 1), ("send", 2, 1), ("hear", 0), ("hear", 1)))

    def test_no_sync_is_needed_where_all_is_safe(self):
        row = EVENTS + (("sync", 0), ("sync", 1), ("sync", 2))
        self.check(HOMES, row, 1, 0, (("send", 0, 1), ("hear", 0)))
        self.check(HOMES, row, 1, 2, (("send", 0, 1), ("send", 2, 1), ("hear", 0), ("hear", 1)))

    def test_some_cards_are_safe_and_others_are_not(self):
        row = EVENTS + (("sync", 1), ("sync", 2))
        self.check(HOMES, row, 2, 2, (("sync", 0), ("send", 0, 2), ("send", 1, 2), ("hear", 0), ("hear", 1)))

    def test_known_cards_are_not_told_again(self):
        row = EVENTS + (("sync", 0), ("sync", 1), ("sync", 2), ("send", 0, 1), ("hear", 0))
        self.check(HOMES, row, 1, 2, (("send", 2, 1), ("hear", 1)))

    def test_only_cards_on_which_the_deed_leans_count(self):
        row = (word(0, 1), word(1, 1), word(2, 1))
        self.check(HOMES, row, 0, 1, (("sync", 1), ("send", 1, 0), ("hear", 0)))
        self.check(HOMES, row, 0, 0, (("sync", 0),))

    def test_several_things_at_a_house(self):
        homes = (1, 1, 0)
        row = (write(0, 1, 2),)
        self.check(homes, row, 0, 0, (("sync", 0), ("sync", 1), ("send", 1, 0), ("hear", 0)))
        self.check(homes, row, 1, 0, (("sync", 0), ("sync", 1), ("send", 0, 1), ("hear", 0)))

    def test_a_card_synced_and_a_later_one_not(self):
        row = (word(0, 1), ("sync", 0), word(0, 2))
        self.check(HOMES, row, 1, 0, (("send", 0, 1), ("hear", 0)))
        self.check(HOMES, row, 1, 1, (("sync", 0), ("send", 0, 1), ("hear", 0)))

    def test_a_house_without_things(self):
        self.check((0, 3), (word(0, 1),), 2, 0, (("sync", 0), ("send", 0, 2), ("hear", 0)))


class Letters(NewsCase):
    def test_new_letters_have_the_next_numbers(self):
        row = EVENTS + (("send", 0, 1), ("send", 2, 1), ("hear", 1))
        self.check(HOMES, row, 0, 1, (("sync", 0), ("sync", 1), ("send", 1, 0), ("hear", 2)))

    def test_letters_under_way_are_not_thought_of(self):
        row = (word(0, 1), ("sync", 0), ("send", 0, 1))
        self.assertEqual(known_sure(HOMES, row + (("hear", 0),), 1), (0,))
        self.check(HOMES, row, 1, 0, (("send", 0, 1), ("hear", 1)))

    def test_a_letter_under_way_from_a_house_that_is_down(self):
        row = (word(0, 1), ("sync", 0), ("send", 0, 1), ("fall", 0, ()))
        self.assertEqual(known_sure(HOMES, row + (("hear", 0),), 1), (0,))
        self.assertRaises(NotMade, news, HOMES, row, 1, 0)


class Senders(NewsCase):
    def test_one_that_was_told_tells_of_several(self):
        row = EVENTS + (("sync", 0), ("sync", 1), ("sync", 2), ("send", 0, 2), ("hear", 0))
        self.check(HOMES, row, 1, 2, (("send", 2, 1), ("hear", 1)))
        self.check(HOMES, row, 1, 1, (("send", 0, 1), ("hear", 1)))

    def test_a_mark_that_is_the_number_of_a_card_does_not_tell(self):
        row = (word(0, 1), ("sync", 0), ("send", 0, 2), ("hear", 0), word(0, 2), ("sync", 0))
        self.assertEqual(marks(HOMES, row, 2), (1, 0, 0))
        self.check(HOMES, row, 1, 0, (("send", 0, 1), ("hear", 1)))
        down = row + (("fall", 0, ()),)
        self.check(HOMES, down, 1, 0, (("send", 2, 1), ("hear", 1)))
        self.assertRaises(NotMade, news, HOMES, down, 1, 1)

    def test_the_greatest_number_at_a_home_counts(self):
        row = ALL_SYNCED + (("send", 1, 2), ("hear", 0), word(1, 2), ("sync", 1))
        self.check(FOUR, row, 0, 1, tuple(("send", sender, 0) for sender in (1, 2, 3)) + (
            ("hear", 1), ("hear", 2), ("hear", 3)))
        self.check(FOUR, row, 0, 0, (("send", 2, 0), ("send", 3, 0), ("hear", 1), ("hear", 2)))

    def test_the_least_of_several_single_senders(self):
        row = (word(3, 1), ("sync", 3), ("send", 3, 2), ("hear", 0), ("send", 3, 1), ("hear", 1))
        self.check(FOUR, row, 0, 0, (("send", 1, 0), ("hear", 2)))
        self.check(FOUR, row + (("fall", 1, ()),), 0, 0, (("send", 2, 0), ("hear", 2)))
        self.check(FOUR, row + (("fall", 3, ()),), 0, 0, (("send", 1, 0), ("hear", 2)))
        self.check(FOUR, row + (("fall", 1, ()), ("fall", 2, ())), 0, 0, (("send", 3, 0), ("hear", 2)))

    def test_the_least_of_several_pairs_of_senders(self):
        row = ALL_SYNCED + (("send", 2, 1), ("hear", 0), ("send", 1, 3), ("hear", 1))
        self.assertEqual([marks(FOUR, row, house) for house in (1, 2, 3)], [(0, 1, 1, 0), (0, 0, 1, 0), (0, 1, 1, 1)])
        self.check(FOUR, row, 0, 0, (("send", 3, 0), ("hear", 2)))
        row = ALL_SYNCED + (("send", 2, 3), ("hear", 0), ("send", 3, 2), ("hear", 1))
        self.check(FOUR, row, 0, 0, (("send", 1, 0), ("send", 2, 0), ("hear", 2), ("hear", 3)))
        row = ALL_SYNCED + (("send", 1, 2), ("hear", 0), ("send", 2, 1), ("hear", 1))
        self.check(FOUR, row, 0, 0, (("send", 1, 0), ("send", 3, 0), ("hear", 2), ("hear", 3)))

    def test_three_senders(self):
        self.check(FOUR, ALL_SYNCED, 0, 0, tuple(("send", sender, 0) for sender in (1, 2, 3)) + (
            ("hear", 0), ("hear", 1), ("hear", 2)))
        self.check(FOUR, ALL_SYNCED[:1], 0, 0, ALL_SYNCED[1:] + tuple(("send", sender, 0) for sender in (1, 2, 3)) + (
            ("hear", 0), ("hear", 1), ("hear", 2)))

    def test_the_house_itself_is_no_sender(self):
        row = (write(0, 1), ("sync", 0), ("sync", 1), ("send", 0, 1), ("hear", 0))
        self.check(HOMES, row, 0, 0, (("send", 1, 0), ("hear", 1)))


class Falls(NewsCase):
    def test_a_safe_card_at_a_house_that_is_down(self):
        row = (word(0, 1), ("sync", 0), ("send", 0, 2), ("hear", 0), ("fall", 0, ()))
        self.check(HOMES, row, 1, 0, (("send", 2, 1), ("hear", 1)))
        self.check(HOMES, row, 2, 0, ())

    def test_a_safe_card_of_which_nobody_that_is_up_can_tell(self):
        for row in (
            (word(0, 1), ("sync", 0), ("fall", 0, ())),
            (word(0, 1), ("fall", 0, ((0, 0),))),
            (word(0, 1), ("sync", 0), ("send", 0, 2), ("hear", 0), ("fall", 0, ()), ("fall", 2, ())),
            (word(0, 1), ("sync", 0), ("send", 0, 2), ("hear", 0), ("fall", 0, ()), ("fall", 2, ()), ("up", 2)),
        ):
            self.assertEqual(sure(HOMES, row), (0,))
            self.assertRaises(NotMade, news, HOMES, row, 1, 0)
            self.assertIsNone(Told(HOMES, row).news(1, 0))

    def test_a_lost_card(self):
        row = EVENTS + (("fall", 1, ()),)
        self.assertEqual(unsafe(HOMES, row), ((0, 0), (1, 1), (2, 0), (2, 2)))
        self.check(HOMES, row, 0, 0, (("sync", 0),))
        for deed in (1, 2):
            self.assertRaises(NotMade, news, HOMES, row, 0, deed)
            self.assertRaises(NotMade, news, HOMES, row + (("sync", 0), ("sync", 2)), 2, deed)

    def test_a_kept_card_is_told_by_up(self):
        row = EVENTS + (("fall", 1, ((1, 1),)), ("up", 1))
        self.check(HOMES, row, 0, 1, (("sync", 0),))
        self.check(HOMES, row, 2, 1, (("sync", 0), ("send", 0, 2), ("hear", 0)))
        self.check(HOMES, row, 2, 2, (("sync", 0), ("sync", 2), ("send", 0, 2), ("hear", 0)))

    def test_houses_that_are_down_do_not_send(self):
        row = EVENTS + (("sync", 0), ("send", 0, 1), ("hear", 0), ("send", 0, 2), ("hear", 1), ("fall", 0, ()))
        self.check(HOMES, row, 2, 0, ())
        self.check(HOMES, row, 2, 1, (("sync", 1), ("send", 1, 2), ("hear", 2)))

    def test_gone_deeds(self):
        row = EVENTS + (("fall", 1, ()), ("up", 1))
        self.assertEqual(gone(HOMES, row), (1, 2))
        for house in (0, 1, 2):
            for deed in (1, 2):
                self.assertRaises(NotMade, news, HOMES, row, house, deed)
        self.check(HOMES, row, 0, 0, (("sync", 0),))

    def test_rows_of_64_events(self):
        row = (word(1, 1),) * 63 + (write(0, 1, 2),)
        self.check(HOMES, row, 1, 63, (
            ("sync", 0), ("sync", 1), ("sync", 2), ("send", 0, 1), ("send", 2, 1), ("hear", 0), ("hear", 1)))
        self.check(HOMES, row, 0, 62, (("sync", 1), ("send", 1, 0), ("hear", 0)))
        self.check(HOMES, row[1:] + (("sync", 1),), 1, 61, ())
        self.assertRaises(NotMade, news, HOMES, row[1:] + (("fall", 0, ()),), 1, 62)

    def test_more_than_64_letters(self):
        row = (write(0, 1),) + (("send", 0, 1),) * 63
        self.check(HOMES, row, 2, 0, (
            ("sync", 0), ("sync", 1), ("send", 0, 2), ("send", 1, 2), ("hear", 63), ("hear", 64)))


class WrongInputs(unittest.TestCase):
    def test_wrong_homes_and_rows(self):
        for homes in WRONG_HOMES:
            self.assertRaises(BadHomes, news, homes, EVENTS, 0, 0)
            self.assertRaises(BadHomes, news, homes, None, None, None)
        for value in NOT_TUPLES:
            self.assertRaises(BadRow, news, HOMES, value, 0, 0)
            self.assertRaises(BadRow, news, HOMES, value, None, None)
        for value in WRONG_EVENTS:
            with self.assertRaises(BadRow) as caught:
                news(HOMES, EVENTS + (value,), 0, 0)
            self.assertEqual(caught.exception.index, 3)

    def test_wrong_houses(self):
        for value in WRONG_HOUSE:
            for deed in (0, 3, None):
                self.assertRaises(BadHouse, news, HOMES, EVENTS, value, deed)

    def test_wrong_deeds(self):
        for value in NOT_INTEGERS + [-1, -3, 3, 4, 63, 64, 10 ** 30]:
            self.assertRaises(BadDeed, news, HOMES, EVENTS, 0, value)
            self.assertRaises(BadDeed, news, HOMES, EVENTS + (("fall", 0, ()),), 0, value)
        self.assertRaises(BadDeed, news, HOMES, (), 0, 0)

    def test_not_now_comes_ahead_of_not_made(self):
        row = EVENTS + (("sync", 0), ("fall", 1, ()), ("up", 1), ("fall", 0, ()))
        for deed in (0, 1, 2):
            self.assertRaises(NotNow, news, HOMES, row, 0, deed)
        self.assertRaises(NotMade, news, HOMES, row, 1, 1)
        self.assertRaises(NotMade, news, HOMES, row, 1, 0)


if __name__ == "__main__":
    unittest.main()
