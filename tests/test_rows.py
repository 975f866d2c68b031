"""Points 5 to 9: what holds behind a row."""

import unittest

from keptabroad.deeds import plain
from keptabroad.errors import BadDeed
from keptabroad.rows import can_come, gone, leans, needs, standing, sure, unsafe, ups, words
from tests.values import DEEDS, EVENTS, HOMES, NOT_INTEGERS

FOUR = (0, 1, 2, 3)


def word(thing, n, *reads):
    return "do", tuple(reads), ((thing, "word", n),)


def add(thing, n, *reads):
    return "do", tuple(reads), ((thing, "sum", n),)


class Interface(unittest.TestCase):
    def test_first_example(self):
        homes, events = HOMES, EVENTS
        self.assertEqual(words(homes, events), (8, 8, 5))
        self.assertEqual(unsafe(homes, events), ((0, 0), (1, 1), (2, 0), (2, 2)))
        self.assertEqual(leans(homes, events, 2), (0, 1, 2))
        self.assertEqual(needs(homes, events, 2), (0, 1))
        self.assertEqual(sure(homes, events + (("sync", 0),)), (0,))
        self.assertEqual(gone(homes, events + (("fall", 1, ()), ("up", 1))), (1, 2))

    def test_second_example(self):
        homes, events = HOMES, EVENTS
        self.assertEqual(standing(homes, events), (0, 1, 2))
        self.assertEqual(ups(homes, events + (("fall", 1, ()),)), (0, 2))
        self.assertIs(can_come(homes, events, ("up", 0)), False)

    def test_third_example(self):
        self.assertRaises(BadDeed, needs, HOMES, EVENTS, 3)


class NoEvents(unittest.TestCase):
    def test_every_function(self):
        for homes in ((0,), (3,), (0, 3), (0, 1, 2, 3, 0, 1)):
            self.assertEqual(gone(homes, ()), ())
            self.assertEqual(standing(homes, ()), ())
            self.assertEqual(words(homes, ()), (0,) * len(homes))
            self.assertEqual(ups(homes, ()), tuple(range(max(homes) + 1)))
            self.assertEqual(unsafe(homes, ()), ())
            self.assertEqual(sure(homes, ()), ())
            self.assertRaises(BadDeed, needs, homes, (), 0)
            self.assertRaises(BadDeed, leans, homes, (), 0)


class NeedsAndLeans(unittest.TestCase):
    def test_the_last_writer_of_each_thing(self):
        row = (word(0, 1), word(0, 2), word(1, 3), add(2, 0, 0, 1), word(1, 4))
        self.assertEqual([needs(HOMES, row, deed) for deed in range(5)], [(), (0,), (), (1, 2), (2,)])
        self.assertEqual(
            [leans(HOMES, row, deed) for deed in range(5)], [(0,), (0, 1), (2,), (0, 1, 2, 3), (2, 4)])

    def test_reading_alone_makes_nobody_need(self):
        row = (word(0, 1), word(1, 0, 0), word(2, 0, 0), word(0, 2))
        self.assertEqual([needs(HOMES, row, deed) for deed in range(4)], [(), (0,), (0,), (0,)])

    def test_a_word_needs_what_it_reads_and_writes_too(self):
        row = (word(0, 1), word(1, 1), word(1, 2, 0))
        self.assertEqual(needs(HOMES, row, 2), (0, 1))

    def test_one_writer_of_several_things_is_told_once(self):
        row = (("do", (), ((0, "word", 1), (1, "word", 1), (2, "word", 1))), ("do", (0, 1), ((2, "sum", 0),)))
        self.assertEqual(needs(HOMES, row, 1), (0,))

    def test_all_reads_and_all_writes_count(self):
        homes = (0, 1, 2, 3, 0, 1)
        row = tuple(word(thing, 1) for thing in range(6))
        row += (("do", (0, 1, 2), ((3, "word", 1), (4, "word", 1), (5, "word", 1))),)
        self.assertEqual(needs(homes, row, 6), (0, 1, 2, 3, 4, 5))
        self.assertEqual(leans(homes, row, 6), (0, 1, 2, 3, 4, 5, 6))

    def test_a_chain_across_several_houses(self):
        row = (word(0, 1), add(1, 1, 0), add(2, 1, 1), add(3, 1, 2), word(0, 5))
        self.assertEqual(needs(FOUR, row, 3), (2,))
        self.assertEqual(leans(FOUR, row, 3), (0, 1, 2, 3))
        self.assertEqual(leans(FOUR, row, 4), (0, 4))

    def test_gone_deeds_are_not_needed(self):
        row = (word(0, 1), ("sync", 0), word(0, 2), ("fall", 0, ()), ("up", 0), word(0, 3))
        self.assertEqual(gone(HOMES, row), (1,))
        self.assertEqual(needs(HOMES, row, 2), (0,))
        self.assertEqual(leans(HOMES, row, 2), (0, 2))

    def test_needs_stay_as_they_were_when_the_deed_was_done(self):
        row = (word(0, 1), word(1, 2, 0), ("fall", 0, ()), ("up", 0))
        self.assertEqual(gone(HOMES, row), (0, 1))
        self.assertEqual(needs(HOMES, row, 1), (0,))
        self.assertEqual(leans(HOMES, row, 1), (0, 1))
        later = row + (word(0, 3), word(1, 4, 0))
        self.assertEqual([needs(HOMES, later, deed) for deed in range(4)], [(), (0,), (), (2,)])

    def test_a_deed_that_is_not_called_yet_is_needed(self):
        both = ("do", (), ((0, "word", 1), (1, "word", 2)))
        row = (both, ("fall", 0, ()), add(1, 3, 1))
        self.assertEqual(needs(HOMES, row, 1), (0,))
        self.assertEqual(words(HOMES, row), (1, 5, 0))
        self.assertEqual(gone(HOMES, row), ())
        called = row + (("up", 0),)
        self.assertEqual(gone(HOMES, called), (0, 1))
        self.assertEqual(needs(HOMES, called, 1), (0,))
        self.assertEqual(words(HOMES, called), (0, 0, 0))

    def test_wrong_deeds(self):
        row = EVENTS + (("sync", 0), ("fall", 1, ()), ("up", 1))
        for function in (needs, leans):
            for value in NOT_INTEGERS + [-1, -3, 3, 4, 63, 64, 10 ** 30]:
                self.assertRaises(BadDeed, function, HOMES, row, value)
            for deed in (0, 1, 2):
                function(HOMES, row, deed)


class Cards(unittest.TestCase):
    def test_a_card_for_each_write(self):
        homes = (2, 0, 2, 1)
        row = (("do", (0,), ((1, "word", 1), (2, "word", 1), (3, "word", 1))), word(0, 4))
        self.assertEqual(unsafe(homes, row), ((0, 1), (0, 2), (0, 3), (1, 0)))

    def test_sync_makes_the_cards_of_its_house_safe(self):
        self.assertEqual(unsafe(HOMES, EVENTS + (("sync", 0),)), ((1, 1), (2, 2)))
        self.assertEqual(unsafe(HOMES, EVENTS + (("sync", 1),)), ((0, 0), (2, 0), (2, 2)))
        self.assertEqual(unsafe(HOMES, EVENTS + (("sync", 0), ("sync", 1), ("sync", 2))), ())

    def test_sync_is_of_no_account_for_later_cards(self):
        row = (word(0, 1), ("sync", 0), word(0, 2))
        self.assertEqual(unsafe(HOMES, row), ((1, 0),))
        self.assertEqual(gone(HOMES, row + (("fall", 0, ()), ("up", 0))), (1,))

    def test_sync_of_a_house_without_things(self):
        self.assertEqual(unsafe((0, 3), (word(1, 1), ("sync", 1))), ((0, 1),))
        self.assertEqual(unsafe((0, 3), (word(1, 1), ("sync", 3))), ())

    def test_safe_cards_stay_safe(self):
        row = (word(0, 1), ("sync", 0)) + (("fall", 0, ()), ("up", 0)) * 3
        self.assertEqual(standing(HOMES, row), (0,))
        self.assertEqual(unsafe(HOMES, row), ())
        self.assertEqual(words(HOMES, row), (1, 0, 0))


class Falls(unittest.TestCase):
    ROW = (word(0, 1), word(1, 2), word(0, 3), add(1, 0, 0))

    def behind(self, keep):
        return self.ROW + (("fall", 0, keep),)

    def test_keeps_none(self):
        row = self.behind(())
        self.assertEqual(unsafe(HOMES, row), ((0, 0), (1, 1), (2, 0), (3, 1)))
        self.assertEqual(gone(HOMES, row + (("up", 0),)), (0, 2, 3))
        self.assertEqual(words(HOMES, row + (("up", 0),)), (0, 2, 0))

    def test_keeps_some(self):
        row = self.behind(((0, 0),))
        self.assertEqual(unsafe(HOMES, row), ((1, 1), (2, 0), (3, 1)))
        self.assertEqual(gone(HOMES, row + (("up", 0),)), (2, 3))
        self.assertEqual(unsafe(HOMES, row + (("up", 0),)), ((1, 1),))
        self.assertEqual(words(HOMES, row + (("up", 0),)), (1, 2, 0))

    def test_keeps_a_later_card_and_not_an_earlier_one(self):
        row = self.behind(((2, 0),))
        self.assertEqual(unsafe(HOMES, row), ((0, 0), (1, 1), (3, 1)))
        self.assertEqual(gone(HOMES, row + (("up", 0),)), (0, 2, 3))

    def test_keeps_all(self):
        row = self.behind(((0, 0), (2, 0)))
        self.assertEqual(unsafe(HOMES, row), ((1, 1), (3, 1)))
        self.assertEqual(gone(HOMES, row + (("up", 0),)), ())
        self.assertEqual(sure(HOMES, row), (0, 2))

    def test_kept_cards_are_safe_from_then_on(self):
        row = self.behind(((0, 0),)) + (("up", 0), ("fall", 0, ()), ("up", 0))
        self.assertEqual(standing(HOMES, row), (0, 1))
        self.assertEqual(sure(HOMES, row), (0,))

    def test_nothing_is_gone_ahead_of_up(self):
        row = self.behind(())
        for function, answer in ((gone, ()), (standing, (0, 1, 2, 3)), (words, (3, 3, 0)), (ups, (1, 2))):
            self.assertEqual(function(HOMES, row), answer)
        later = row + (word(2, 9), ("sync", 1), ("sync", 2), ("send", 1, 2), ("hear", 0), ("fall", 1, ()), ("up", 1))
        self.assertEqual(gone(HOMES, later), ())
        self.assertEqual(gone(HOMES, later + (("up", 0),)), (0, 2, 3))

    def test_each_house_loses_its_own_cards(self):
        row = self.ROW + (("fall", 1, ()), ("up", 1))
        self.assertEqual(gone(HOMES, row), (1, 3))
        self.assertEqual(standing(HOMES, row), (0, 2))
        self.assertEqual(words(HOMES, row), (3, 0, 0))

    def test_houses_up_behind_falls(self):
        row = (("fall", 3, ()), ("fall", 0, ()), ("up", 3), ("fall", 1, ()))
        self.assertEqual([ups(FOUR, row[:end]) for end in range(5)],
                         [(0, 1, 2, 3), (0, 1, 2), (1, 2), (1, 2, 3), (2, 3)])

    def test_two_houses_down_at_once(self):
        row = (word(0, 1), word(1, 2), ("fall", 0, ()), ("fall", 1, ()), ("up", 1))
        self.assertEqual(gone(HOMES, row), (1,))
        self.assertEqual(unsafe(HOMES, row), ((0, 0),))
        self.assertEqual(gone(HOMES, row + (("up", 0),)), (0, 1))


class GoneDeeds(unittest.TestCase):
    CHAIN = (word(0, 1), add(1, 1, 0), add(2, 1, 1), add(3, 1, 2), word(0, 5))

    def test_all_that_lean_on_it_go_across_houses(self):
        for house, lost in ((0, (0, 1, 2, 3, 4)), (1, (1, 2, 3)), (2, (2, 3)), (3, (3,))):
            self.assertEqual(gone(FOUR, self.CHAIN + (("fall", house, ()), ("up", house))), lost)

    def test_safe_cards_do_not_save_a_deed_that_leans_on_a_lost_one(self):
        row = self.CHAIN + (("sync", 2), ("sync", 3), ("fall", 1, ()), ("up", 1))
        self.assertEqual(gone(FOUR, row), (1, 2, 3))
        self.assertEqual(words(FOUR, row), (5, 0, 0, 0))

    def test_cards_of_gone_deeds_are_of_no_account(self):
        row = self.CHAIN + (("fall", 1, ()), ("up", 1))
        self.assertEqual(unsafe(FOUR, row), ((0, 0), (4, 0)))
        again = row + (add(1, 2, 0), add(2, 2), ("fall", 2, ((6, 2),)), ("up", 2))
        self.assertEqual(gone(FOUR, again), (1, 2, 3))
        self.assertEqual(standing(FOUR, again), (0, 4, 5, 6))
        self.assertEqual(words(FOUR, again), (5, 7, 2, 0))

    def test_gone_deeds_are_gone_for_ever(self):
        row = self.CHAIN + (("fall", 1, ()), ("up", 1), ("sync", 0), ("sync", 1), ("sync", 2), ("sync", 3))
        row += (("fall", 1, ()), ("up", 1), word(1, 1))
        self.assertEqual(gone(FOUR, row), (1, 2, 3))
        self.assertEqual(standing(FOUR, row), (0, 4, 5))

    def test_a_lost_card_of_a_deed_gone_meanwhile(self):
        both = ("do", (), ((0, "word", 1), (1, "word", 2)))
        row = (both, ("fall", 0, ()), ("fall", 1, ()), ("up", 0))
        self.assertEqual(gone(HOMES, row), (0,))
        self.assertEqual(unsafe(HOMES, row), ())
        row += (word(0, 3), ("up", 1), word(1, 4, 0))
        self.assertEqual(gone(HOMES, row), (0,))
        self.assertEqual(words(HOMES, row), (3, 4, 0))
        self.assertEqual(needs(HOMES, row, 2), (1,))

    def test_numbers_of_gone_deeds_are_not_given_again(self):
        row = (word(0, 1), ("fall", 0, ()), ("up", 0), word(0, 2))
        self.assertEqual(standing(HOMES, row), (1,))
        self.assertEqual(unsafe(HOMES, row), ((1, 0),))

    def test_words_are_those_of_the_last_deed_not_gone(self):
        row = (word(0, 1), ("sync", 0), word(0, 2), word(0, 3), ("fall", 0, ((2, 0),)))
        self.assertEqual(words(HOMES, row), (3, 0, 0))
        self.assertEqual(words(HOMES, row + (("up", 0),)), (1, 0, 0))
        self.assertEqual(words(HOMES, row + (("up", 0), add(0, 5, 0))), (6, 0, 0))

    def test_sums_of_words_that_have_come_back(self):
        row = (word(0, 999), ("sync", 0), word(0, 2), ("fall", 0, ()), ("up", 0), add(1, 2, 0))
        self.assertEqual(words(HOMES, row), (999, 1, 0))

    def test_words_are_those_of_plain_for_the_standing_deeds(self):
        row = EVENTS + (("fall", 1, ()), ("up", 1))
        self.assertEqual(words(HOMES, row), plain(HOMES, DEEDS[:1]))
        self.assertEqual(words(HOMES, EVENTS), plain(HOMES, DEEDS))


class Sure(unittest.TestCase):
    def test_all_cards_of_a_deed_are_to_be_safe(self):
        row = (("do", (), ((0, "word", 1), (1, "word", 1), (2, "word", 1))),)
        for houses in ((), (0,), (0, 1), (1, 2), (0, 2)):
            self.assertEqual(sure(HOMES, row + tuple(("sync", house) for house in houses)), ())
        self.assertEqual(sure(HOMES, row + (("sync", 2), ("sync", 0), ("sync", 1))), (0,))

    def test_all_on_which_it_leans_are_to_be_safe(self):
        row = GoneDeeds.CHAIN
        self.assertEqual(sure(FOUR, row + (("sync", 3),)), ())
        self.assertEqual(sure(FOUR, row + (("sync", 0),)), (0, 4))
        self.assertEqual(sure(FOUR, row + (("sync", 0), ("sync", 2), ("sync", 3))), (0, 4))
        self.assertEqual(sure(FOUR, row + (("sync", 0), ("sync", 1), ("sync", 3))), (0, 1, 4))
        self.assertEqual(sure(FOUR, row + (("sync", 0), ("sync", 1), ("sync", 2))), (0, 1, 2, 4))
        self.assertEqual(sure(FOUR, row + tuple(("sync", house) for house in FOUR)), (0, 1, 2, 3, 4))

    def test_lost_cards_not_called_yet_are_not_sure(self):
        row = EVENTS + (("sync", 0), ("fall", 1, ()))
        self.assertEqual(sure(HOMES, row), (0,))
        self.assertEqual(unsafe(HOMES, row), ((1, 1), (2, 2)))
        kept = EVENTS + (("sync", 0), ("fall", 1, ((1, 1),)))
        self.assertEqual(sure(HOMES, kept), (0, 1))
        self.assertEqual(unsafe(HOMES, kept), ((2, 2),))

    def test_gone_deeds_are_not_sure(self):
        row = EVENTS + (("sync", 0), ("sync", 2), ("fall", 1, ()), ("up", 1))
        self.assertEqual(sure(HOMES, row), (0,))
        self.assertEqual(unsafe(HOMES, row), ())
        self.assertEqual(sure(HOMES, row + (("sync", 1),)), (0,))

    def test_a_deed_that_leans_on_one_not_called_yet(self):
        both = ("do", (), ((0, "word", 1), (1, "word", 2)))
        row = (both, ("sync", 1), ("fall", 0, ()), add(1, 3, 1), ("sync", 1))
        self.assertEqual(unsafe(HOMES, row), ((0, 0),))
        self.assertEqual(sure(HOMES, row), ())
        self.assertEqual(standing(HOMES, row), (0, 1))
        self.assertEqual(standing(HOMES, row + (("up", 0),)), ())


if __name__ == "__main__":
    unittest.main()
