"""Points 10 to 13: marks, what is known safe and sure, rows that are alike, and doubt."""

import unittest

from keptabroad.errors import BadDeed, BadHomes, BadHouse, BadRow, NotMade, NotNow
from keptabroad.knows import alike_to, doubt, known_sure, marks
from keptabroad.rows import gone, standing, sure, unsafe, ups
from tests.model import Told
from tests.values import (
    EVENTS, HOMES, NOT_INTEGERS, NOT_TUPLES, WRONG_EVENTS, WRONG_HOMES, WRONG_HOUSE, read, word, write,
)

FOUR = (0, 1, 2, 3)
SYNCED = EVENTS + (("sync", 0), ("sync", 2))


def all_marks(homes, row):
    """The marks of each house that is up."""
    return {house: marks(homes, row, house) for house in ups(homes, row)}


class Interface(unittest.TestCase):
    def test_example(self):
        homes, events, synced = HOMES, EVENTS, SYNCED
        self.assertEqual(marks(homes, synced, 0), (3, 0, 0))
        self.assertEqual(known_sure(homes, synced, 0), (0,))
        self.assertEqual(doubt(homes, synced, 0, 2)[1], (("fall", 1, ()), ("up", 1)))
        self.assertIs(alike_to(homes, events, events, 1), True)

    def test_second_example(self):
        self.assertRaises(NotMade, doubt, HOMES, SYNCED, 0, 0)


class Marks(unittest.TestCase):
    def test_at_first(self):
        self.assertEqual(marks((0,), (), 0), (0,))
        self.assertEqual(marks((3,), (), 1), (0, 0, 0, 0))
        self.assertEqual(all_marks(HOMES, EVENTS), {0: (0, 0, 0), 1: (0, 0, 0), 2: (0, 0, 0)})

    def test_behind_sync_the_house_alone_has_a_mark_of_itself(self):
        row = (word(0, 1), word(1, 1), ("sync", 1), word(0, 2))
        self.assertEqual(all_marks(HOMES, row), {0: (0, 0, 0), 1: (0, 2, 0), 2: (0, 0, 0)})
        self.assertEqual(marks(HOMES, row + (("sync", 1),), 1), (0, 3, 0))

    def test_a_sync_counts_deeds_of_all_houses_and_gone_ones(self):
        row = (word(0, 1), word(1, 1), ("fall", 0, ()), ("up", 0), word(1, 2), ("sync", 2))
        self.assertEqual(gone(HOMES, row), (0,))
        self.assertEqual(marks(HOMES, row, 2), (2, 0, 3))

    def test_a_sync_counts_no_other_events(self):
        row = (("send", 0, 1), ("hear", 0), ("sync", 1), ("sync", 2), word(0, 1), ("send", 0, 2), ("sync", 2))
        self.assertEqual(marks(HOMES, row, 2), (0, 0, 1))

    def test_behind_up_the_house_and_all_that_are_up_have_the_mark(self):
        row = EVENTS + (("fall", 1, ()), word(0, 4), ("up", 1))
        self.assertEqual(all_marks(HOMES, row), {0: (0, 4, 0), 1: (0, 4, 0), 2: (0, 4, 0)})

    def test_a_fall_gives_no_mark(self):
        row = EVENTS + (("fall", 1, ((1, 1),)),)
        self.assertEqual(all_marks(HOMES, row), {0: (0, 0, 0), 2: (0, 0, 0)})

    def test_a_house_that_is_down_meanwhile_has_the_mark_when_it_comes_up(self):
        row = EVENTS + (("fall", 1, ()), ("fall", 2, ()), ("up", 1))
        self.assertEqual(all_marks(HOMES, row), {0: (0, 3, 0), 1: (0, 3, 0)})
        row += (word(0, 1), word(0, 2), ("up", 2))
        self.assertEqual(all_marks(HOMES, row), {0: (0, 3, 5), 1: (0, 3, 5), 2: (0, 3, 5)})

    def test_a_house_that_comes_up_forgets_what_it_heard(self):
        row = EVENTS + (("sync", 0), ("send", 0, 1), ("hear", 0))
        self.assertEqual(marks(HOMES, row, 1), (3, 0, 0))
        row += (("fall", 1, ()), ("up", 1))
        self.assertEqual(all_marks(HOMES, row), {0: (3, 3, 0), 1: (0, 3, 0), 2: (0, 3, 0)})

    def test_a_house_that_comes_up_knows_the_last_up_of_others_though_they_are_down(self):
        row = (word(0, 1), ("fall", 2, ()), ("up", 2), word(0, 2), ("fall", 2, ()), ("fall", 1, ()), ("up", 1))
        self.assertEqual(all_marks(HOMES, row), {0: (0, 2, 1), 1: (0, 2, 1)})

    def test_a_house_that_came_up_more_than_once(self):
        row = (word(0, 1), ("fall", 2, ()), ("up", 2), word(0, 2), ("fall", 2, ()), word(0, 3), ("up", 2), word(0, 4))
        self.assertEqual(all_marks(HOMES, row), {0: (0, 0, 3), 1: (0, 0, 3), 2: (0, 0, 3)})
        row += (("fall", 1, ()), ("up", 1))
        self.assertEqual(marks(HOMES, row, 1), (0, 4, 3))
        row += (("fall", 2, ()), word(0, 5), ("up", 2), ("fall", 1, ()), ("up", 1))
        self.assertEqual(all_marks(HOMES, row), {0: (0, 5, 5), 1: (0, 5, 5), 2: (0, 5, 5)})

    def test_up_with_no_deed_done(self):
        row = (("fall", 0, ()), ("up", 0), word(0, 1), ("fall", 1, ()), ("up", 1))
        self.assertEqual(all_marks(HOMES, row), {0: (0, 1, 0), 1: (0, 1, 0), 2: (0, 1, 0)})

    def test_a_sync_behind_up(self):
        row = (word(0, 1), ("fall", 2, ()), ("up", 2), word(2, 2), ("sync", 2))
        self.assertEqual(all_marks(HOMES, row), {0: (0, 0, 1), 1: (0, 0, 1), 2: (0, 0, 2)})

    def test_houses_that_are_down(self):
        row = EVENTS + (("fall", 1, ()), ("fall", 2, ()))
        for house in (1, 2):
            for function in (marks, known_sure):
                self.assertRaises(NotNow, function, HOMES, row, house)
        self.assertEqual(marks(HOMES, row, 0), (0, 0, 0))

    def test_houses_without_things(self):
        row = (word(0, 1), ("sync", 2), ("fall", 1, ()), word(0, 2), ("up", 1), ("send", 2, 1), ("hear", 0))
        self.assertEqual(marks((0, 3), row, 1), (0, 2, 1, 0))
        self.assertEqual(marks((0, 3), row, 2), (0, 2, 1, 0))


class Letters(unittest.TestCase):
    def test_a_letter_has_all_marks_of_its_sender(self):
        row = EVENTS + (("sync", 0), ("send", 0, 1), ("hear", 0), ("sync", 1), ("send", 1, 2), ("hear", 1))
        self.assertEqual(all_marks(HOMES, row), {0: (3, 0, 0), 1: (3, 3, 0), 2: (3, 3, 0)})

    def test_a_letter_that_is_not_heard_tells_nothing(self):
        row = EVENTS + (("sync", 0), ("send", 0, 1))
        self.assertEqual(marks(HOMES, row, 1), (0, 0, 0))

    def test_a_letter_is_heard_by_its_receiver_alone(self):
        row = EVENTS + (("sync", 0), ("send", 0, 1), ("hear", 0))
        self.assertEqual(all_marks(HOMES, row), {0: (3, 0, 0), 1: (3, 0, 0), 2: (0, 0, 0)})

    def test_a_letter_has_the_marks_of_the_moment_when_it_was_sent(self):
        row = (word(0, 1), ("sync", 0), ("send", 0, 1), word(0, 2), ("sync", 0), ("hear", 0))
        self.assertEqual(marks(HOMES, row, 1), (1, 0, 0))
        early = (word(0, 1), ("send", 0, 1), ("sync", 0), ("hear", 0))
        self.assertEqual(marks(HOMES, early, 1), (0, 0, 0))

    def test_a_letter_heard_twice(self):
        row = (word(0, 1), ("sync", 0), ("send", 0, 1), ("hear", 0), ("hear", 0))
        self.assertEqual(marks(HOMES, row, 1), (1, 0, 0))

    def test_a_letter_heard_behind_newer_knowledge(self):
        row = (word(0, 1), ("sync", 0), ("send", 0, 1), word(0, 2), ("sync", 0), ("send", 0, 1))
        self.assertEqual(marks(HOMES, row + (("hear", 1), ("hear", 0)), 1), (2, 0, 0))

    def test_each_mark_is_the_greater_one(self):
        row = (word(0, 1), ("sync", 0), ("sync", 1), ("send", 1, 2), ("send", 0, 2), word(0, 2), ("sync", 2))
        self.assertEqual(marks(HOMES, row + (("hear", 1),), 2), (1, 0, 2))
        self.assertEqual(marks(HOMES, row + (("hear", 0),), 2), (0, 1, 2))
        self.assertEqual(marks(HOMES, row + (("hear", 1), ("hear", 0)), 2), (1, 1, 2))

    def test_a_letter_heard_behind_a_fall_tells_again_what_was_forgotten(self):
        row = EVENTS + (("sync", 0), ("send", 0, 1), ("hear", 0), ("fall", 1, ()), ("up", 1))
        self.assertEqual(marks(HOMES, row, 1), (0, 3, 0))
        self.assertEqual(marks(HOMES, row + (("hear", 0),), 1), (3, 3, 0))

    def test_a_letter_heard_while_its_sender_is_down(self):
        row = (word(0, 1), ("sync", 0), ("send", 0, 1), ("fall", 0, ()), word(2, 2), ("hear", 0))
        self.assertEqual(marks(HOMES, row, 1), (1, 0, 0))

    def test_an_old_letter_behind_the_up_of_its_sender(self):
        row = (word(0, 1), ("sync", 0), ("send", 0, 1), word(0, 2), ("fall", 0, ()), ("up", 0), ("hear", 0))
        self.assertEqual(marks(HOMES, row, 1), (2, 0, 0))

    def test_a_letter_sent_to_a_house_that_is_down(self):
        row = (word(0, 1), ("sync", 0), ("fall", 1, ()), ("send", 0, 1), ("up", 1))
        self.assertEqual(marks(HOMES, row, 1), (0, 1, 0))
        self.assertEqual(marks(HOMES, row + (("hear", 0),), 1), (1, 1, 0))

    def test_letters_are_numbered_in_their_order(self):
        row = (("send", 2, 0), word(0, 1), ("sync", 2), ("send", 2, 0), word(0, 1), ("sync", 2), ("send", 2, 1))
        self.assertEqual([marks(HOMES, row + (("hear", letter),), 0) for letter in range(3)],
                         [(0, 0, 0), (0, 0, 1), (0, 0, 0)])
        self.assertEqual(marks(HOMES, row + (("hear", 2),), 1), (0, 0, 2))


class KnownSure(unittest.TestCase):
    def test_nothing_is_known_at_first(self):
        for house in (0, 1, 2):
            self.assertEqual(known_sure(HOMES, (), house), ())
            self.assertEqual(known_sure(HOMES, EVENTS, house), ())

    def test_a_deed_that_is_sure_but_not_known_sure(self):
        row = (word(0, 1), ("sync", 0))
        self.assertEqual(sure(HOMES, row), (0,))
        self.assertEqual([known_sure(HOMES, row, house) for house in (0, 1, 2)], [(0,), (), ()])
        row += (("send", 0, 2), ("hear", 0))
        self.assertEqual([known_sure(HOMES, row, house) for house in (0, 1, 2)], [(0,), (), (0,)])

    def test_all_cards_of_a_deed_are_to_be_known_safe(self):
        row = (write(0, 1, 2), ("sync", 1), ("send", 1, 0), ("hear", 0), ("sync", 0))
        self.assertEqual(known_sure(HOMES, row, 0), ())
        row += (("sync", 2), ("send", 2, 0))
        self.assertEqual(sure(HOMES, row), (0,))
        self.assertEqual(known_sure(HOMES, row, 0), ())
        self.assertEqual(known_sure(HOMES, row + (("hear", 1),), 0), (0,))

    def test_all_on_which_it_leans_are_to_be_known_safe(self):
        chain = (word(0, 1), read(1, 0), read(2, 1))
        row = chain + (("sync", 0), ("sync", 2), ("send", 0, 2), ("hear", 0))
        self.assertEqual(known_sure(HOMES, row, 2), (0,))
        row += (("sync", 1), ("send", 1, 2), ("hear", 1))
        self.assertEqual(known_sure(HOMES, row, 2), (0, 1, 2))

    def test_a_deed_whose_number_is_the_mark_is_not_known(self):
        row = (word(0, 1), word(0, 2), ("sync", 0), word(0, 3))
        self.assertEqual(marks(HOMES, row, 0), (2, 0, 0))
        self.assertEqual(known_sure(HOMES, row, 0), (0, 1))

    def test_up_tells_all_that_are_up(self):
        row = EVENTS + (("sync", 0), ("fall", 1, ((1, 1),)))
        self.assertEqual(sure(HOMES, row), (0, 1))
        self.assertEqual([known_sure(HOMES, row, house) for house in (0, 2)], [(0,), ()])
        row += (("up", 1),)
        self.assertEqual([known_sure(HOMES, row, house) for house in (0, 1, 2)], [(0, 1), (), ()])
        row += (("send", 0, 2), ("hear", 0), ("sync", 2))
        self.assertEqual([known_sure(HOMES, row, house) for house in (0, 1, 2)], [(0, 1), (), (0, 1, 2)])

    def test_gone_deeds_are_not_known_sure(self):
        row = EVENTS + (("fall", 1, ()), ("up", 1), ("sync", 0), ("sync", 1), ("sync", 2))
        self.assertEqual(gone(HOMES, row), (1, 2))
        self.assertEqual([known_sure(HOMES, row, house) for house in (0, 1, 2)], [(0,), (), ()])

    def test_what_is_known_sure_is_sure(self):
        row = EVENTS + (("sync", 0), ("send", 0, 1), ("hear", 0), ("fall", 2, ()), ("up", 2), ("sync", 1))
        for end in range(len(row) + 1):
            for house in ups(HOMES, row[:end]):
                self.assertLessEqual(set(known_sure(HOMES, row[:end], house)), set(sure(HOMES, row[:end])))


class AlikeTo(unittest.TestCase):
    def test_a_row_is_alike_to_itself(self):
        for row in ((), EVENTS, SYNCED):
            for house in (0, 1, 2):
                self.assertIs(alike_to(HOMES, row, row, house), True)

    def test_syncs_of_others_are_not_seen(self):
        self.assertIs(alike_to(HOMES, EVENTS, SYNCED, 1), True)
        self.assertIs(alike_to(HOMES, SYNCED, EVENTS, 1), True)
        self.assertIs(alike_to(HOMES, EVENTS, SYNCED, 0), False)
        self.assertIs(alike_to(HOMES, SYNCED, EVENTS, 0), False)
        self.assertIs(alike_to(HOMES, EVENTS, SYNCED, 2), False)

    def test_letters_that_are_not_heard_or_tell_nothing_new_are_not_seen(self):
        row = EVENTS + (("sync", 0), ("send", 0, 1))
        self.assertIs(alike_to(HOMES, EVENTS, row, 1), True)
        self.assertIs(alike_to(HOMES, EVENTS, row + (("hear", 0),), 1), False)
        self.assertIs(alike_to(HOMES, EVENTS, EVENTS + (("send", 0, 1), ("hear", 0)), 1), True)

    def test_the_deeds_are_to_be_the_same(self):
        first, second = word(0, 1), word(1, 1)
        self.assertIs(alike_to(HOMES, (first, second), (second, first), 2), False)
        self.assertIs(alike_to(HOMES, (first,), (first, second), 2), False)
        self.assertIs(alike_to(HOMES, (first,), (word(0, 2),), 2), False)
        self.assertIs(alike_to(HOMES, (first,), (word(0, 1, 1),), 2), False)
        self.assertIs(alike_to(HOMES, (word(0, 1),), (("do", (), ((0, "sum", 1),)),), 2), False)

    def test_other_events_may_come_in_another_order(self):
        one = (word(0, 1), ("sync", 0), word(1, 1), ("sync", 2))
        other = (word(0, 1), word(1, 1), ("sync", 2), ("sync", 1))
        self.assertIs(alike_to(HOMES, one, other, 2), True)

    def test_the_same_are_to_be_gone(self):
        one = (word(0, 1), ("fall", 0, ()), ("up", 0))
        other = (word(0, 1), ("fall", 0, ((0, 0),)), ("up", 0))
        self.assertEqual([gone(HOMES, one), gone(HOMES, other)], [(0,), ()])
        self.assertEqual(marks(HOMES, one, 1), marks(HOMES, other, 1))
        self.assertIs(alike_to(HOMES, one, other, 1), False)
        self.assertIs(alike_to(HOMES, one[:2], other[:2], 1), True)

    def test_the_same_are_to_be_up(self):
        self.assertIs(alike_to(HOMES, EVENTS, EVENTS + (("fall", 0, ()),), 1), False)
        self.assertIs(alike_to(HOMES, EVENTS + (("fall", 2, ()),), EVENTS + (("fall", 0, ()),), 1), False)
        self.assertIs(alike_to(HOMES, EVENTS + (("fall", 2, ()),), EVENTS + (("fall", 2, ((2, 2),)),), 1), True)

    def test_all_marks_are_to_be_the_same(self):
        one = EVENTS + (("sync", 2), ("send", 2, 1))
        self.assertIs(alike_to(HOMES, one, one + (("hear", 0),), 1), False)
        self.assertIs(alike_to(HOMES, one, one + (("hear", 0),), 2), True)
        self.assertIs(alike_to(HOMES, one, one + (("hear", 0),), 0), True)

    def test_the_house_is_to_be_up_behind_both(self):
        down = EVENTS + (("fall", 1, ()),)
        for one, other in ((down, EVENTS), (EVENTS, down), (down, down)):
            self.assertRaises(NotNow, alike_to, HOMES, one, other, 1)
        self.assertIs(alike_to(HOMES, down, down, 0), True)

    def test_rows_of_64_events(self):
        one, other = (word(0, 1),) * 63 + (("sync", 0),), (word(0, 1),) * 63 + (("sync", 1),)
        self.assertIs(alike_to(HOMES, one, other, 2), True)
        self.assertIs(alike_to(HOMES, one, other, 1), False)

    def test_wrong_rows(self):
        for bad, index in ((None, None), (EVENTS * 22, None), ((("up", 0),), 0), (EVENTS + (("sync", True),), 3)):
            for one, other in ((bad, EVENTS), (EVENTS, bad), (bad, ()), (bad, (("up", 1),) if index is None else None)):
                for house in (0, None):
                    with self.assertRaises(BadRow) as caught:
                        alike_to(HOMES, one, other, house)
                    self.assertEqual(caught.exception.index, index)


class DoubtCase(unittest.TestCase):
    def check(self, homes, row, house, deed, one, more):
        """The pair is as told, is alike to the row, and has the deed gone."""
        self.assertEqual(doubt(homes, row, house, deed), (one, more))
        self.assertIs(alike_to(homes, row, one, house), True)
        self.assertIn(deed, standing(homes, row))
        told = Told(homes, one + more)
        self.assertIn(deed, told.gone(len(one + more)))
        if len(one + more) <= 64:
            self.assertIn(deed, gone(homes, one + more))


class DoubtWhereTheHomeIsUp(DoubtCase):
    def test_nothing_was_synced(self):
        self.check(HOMES, EVENTS, 0, 0, EVENTS, (("fall", 0, ((2, 0),)), ("up", 0)))
        self.check(HOMES, EVENTS, 1, 0, EVENTS, (("fall", 0, ((2, 0),)), ("up", 0)))
        self.check(HOMES, EVENTS, 2, 2, EVENTS, (("fall", 0, ((2, 0),)), ("up", 0)))

    def test_the_least_card_not_known_safe(self):
        self.check(HOMES, SYNCED, 0, 2, SYNCED, (("fall", 1, ()), ("up", 1)))
        row = (write(0, 1, 2), ("sync", 0))
        self.check(HOMES, row, 0, 0, row, (("fall", 1, ()), ("up", 1)))
        self.check(HOMES, row, 1, 0, (write(0, 1, 2),), (("fall", 0, ()), ("up", 0)))

    def test_a_deed_that_does_not_lean_on_an_open_one(self):
        row = (word(0, 1), word(1, 1))
        self.check(HOMES, row, 2, 1, row, (("fall", 1, ()), ("up", 1)))

    def test_syncs_are_left_out(self):
        row = (word(0, 1), ("sync", 0), ("sync", 1), ("sync", 0))
        self.check(HOMES, row, 1, 0, (word(0, 1), ("sync", 1)), (("fall", 0, ()), ("up", 0)))

    def test_syncs_ahead_of_which_no_more_than_the_mark_were_done_stay(self):
        known = (("sync", 0), word(0, 1), ("sync", 0), word(1, 1), ("sync", 0))
        known += (("send", 0, 1), ("hear", 0), ("sync", 0))
        row = known + (word(0, 2), ("sync", 0), word(0, 3), ("sync", 0))
        self.assertEqual(marks(HOMES, row, 1), (2, 0, 0))
        one = known + (word(0, 2), word(0, 3))
        self.check(HOMES, row, 1, 2, one, (("fall", 0, ((3, 0),)), ("up", 0)))
        self.check(HOMES, row, 1, 3, one, (("fall", 0, ((3, 0),)), ("up", 0)))

    def test_syncs_ahead_of_which_the_mark_and_one_more_were_done(self):
        row = (word(0, 1), ("fall", 0, ((0, 0),)), ("up", 0), ("sync", 0), word(0, 2), ("sync", 0))
        self.assertEqual(marks(HOMES, row, 1), (1, 0, 0))
        self.check(HOMES, row, 1, 1, row[:5], (("fall", 0, ()), ("up", 0)))

    def test_syncs_of_other_houses_stay(self):
        row = EVENTS + (("sync", 0), ("sync", 1), ("sync", 2))
        one = EVENTS + (("sync", 0), ("sync", 2))
        self.check(HOMES, row, 0, 1, one, (("fall", 1, ()), ("up", 1)))
        self.check(HOMES, row, 0, 2, one, (("fall", 1, ()), ("up", 1)))

    def test_all_other_unsafe_cards_are_kept(self):
        homes = (0, 0, 0, 1)
        row = (write(0, 1, 2), word(3, 1), write(0, 2), word(1, 5, 3))
        self.check(homes, row, 1, 2, row, (("fall", 0, ((0, 1), (0, 2), (2, 0), (2, 2), (3, 1))), ("up", 0)))
        synced = (write(0, 1, 2), ("sync", 0), ("send", 0, 1), ("hear", 0)) + row[1:]
        self.check(homes, synced, 1, 2, synced, (("fall", 0, ((2, 2), (3, 1))), ("up", 0)))
        self.check(homes, synced, 1, 3, synced, (("fall", 1, ()), ("up", 1)))

    def test_cards_that_become_unsafe_by_a_sync_left_out_are_kept(self):
        row = (word(0, 1), word(0, 2), ("sync", 0), word(0, 3))
        self.check(HOMES, row, 2, 1, (word(0, 1), word(0, 2), word(0, 3)), (("fall", 0, ((1, 0), (2, 0))), ("up", 0)))

    def test_cards_of_gone_deeds_are_not_kept(self):
        row = (word(0, 1), word(1, 1), word(0, 2, 1), ("fall", 1, ()), ("up", 1), word(0, 3))
        self.assertEqual(gone(HOMES, row), (1, 2))
        self.check(HOMES, row, 2, 3, row, (("fall", 0, ((3, 0),)), ("up", 0)))
        self.check(HOMES, row, 2, 0, row, (("fall", 0, ((3, 0),)), ("up", 0)))

    def test_the_house_itself_is_the_home(self):
        row = (word(0, 1), ("sync", 0), word(0, 2), word(0, 3))
        self.check(HOMES, row, 0, 1, row, (("fall", 0, ((2, 0),)), ("up", 0)))

    def test_knowledge_that_was_forgotten(self):
        row = (word(0, 1), ("sync", 0), ("send", 0, 1), ("hear", 0), ("fall", 1, ()), ("up", 1))
        self.assertEqual(known_sure(HOMES, row[:4], 1), (0,))
        self.check(HOMES, row, 1, 0, row[:1] + row[2:], (("fall", 0, ()), ("up", 0)))

    def test_falls_of_the_home_ahead_stay(self):
        row = (word(0, 1), word(0, 2), ("sync", 1), ("fall", 0, ((0, 0),)), ("up", 0), word(0, 3), ("sync", 0))
        self.assertEqual(gone(HOMES, row), (1,))
        self.check(HOMES, row, 1, 2, row[:6], (("fall", 0, ()), ("up", 0)))

    def test_cards_lost_at_other_houses(self):
        row = (write(0, 1), ("fall", 0, ()), read(1, 1))
        self.check(HOMES, row, 1, 1, (write(0, 1), ("fall", 0, ()), read(1, 1)), (("up", 0),))
        row = (write(1, 2), ("fall", 2, ()), read(1, 1))
        self.check(HOMES, row, 0, 1, row, (("fall", 1, ((1, 1),)), ("up", 1)))


class DoubtWhereTheHomeIsDown(DoubtCase):
    def test_the_last_fall_keeps_all_but_the_card(self):
        row = EVENTS + (("fall", 0, ()),)
        self.check(HOMES, row, 1, 0, EVENTS + (("fall", 0, ((2, 0),)),), (("up", 0),))
        row = EVENTS + (("fall", 0, ((0, 0), (2, 0))),)
        self.check(HOMES, row, 1, 0, EVENTS + (("fall", 0, ((2, 0),)),), (("up", 0),))

    def test_a_card_that_was_kept(self):
        row = EVENTS + (("sync", 1), ("fall", 0, ((0, 0),)), word(1, 9))
        self.assertEqual(sure(HOMES, row), (0, 1))
        one = EVENTS + (("sync", 1), ("fall", 0, ((2, 0),)), word(1, 9))
        self.check(HOMES, row, 1, 0, one, (("up", 0),))
        self.check(HOMES, row, 1, 3, one, (("up", 0),))

    def test_syncs_ahead_of_the_fall_are_left_out(self):
        row = (word(0, 1), ("sync", 0), ("send", 0, 1), ("hear", 0), word(0, 2), ("sync", 0), ("fall", 0, ()))
        self.assertEqual(marks(HOMES, row, 1), (1, 0, 0))
        self.check(HOMES, row, 1, 1, row[:5] + (("fall", 0, ()),), (("up", 0),))
        both = row[:5] + (word(0, 3), ("sync", 0), ("fall", 0, ()))
        self.check(HOMES, both, 1, 1, row[:5] + (word(0, 3), ("fall", 0, ((2, 0),))), (("up", 0),))

    def test_syncs_with_exactly_the_mark_stay_ahead_of_the_fall(self):
        row = (word(0, 1), ("sync", 0), ("send", 0, 1), ("hear", 0), ("sync", 0), word(0, 2), ("sync", 0))
        row += (("fall", 0, ()),)
        self.check(HOMES, row, 1, 1, row[:6] + (("fall", 0, ()),), (("up", 0),))

    def test_the_last_fall_of_several(self):
        row = (word(0, 1), ("fall", 0, ((0, 0),)), ("up", 0), word(0, 2), word(0, 3), ("fall", 0, ()), word(1, 1))
        self.assertEqual(marks(HOMES, row, 1), (1, 0, 0))
        one = row[:5] + (("fall", 0, ((2, 0),)),) + row[6:]
        self.check(HOMES, row, 1, 1, one, (("up", 0),))
        self.check(HOMES, row, 1, 2, one, (("up", 0),))

    def test_other_events_behind_the_fall_that_tell_the_number_of_the_house(self):
        letters = (("send", 0, 2), ("send", 2, 0), ("hear", 1))
        row = EVENTS + (word(1, 9), ("sync", 0), ("fall", 1, ())) + letters
        one = EVENTS + (word(1, 9), ("sync", 0), ("fall", 1, ((3, 1),))) + letters
        self.check(HOMES, row, 0, 1, one, (("up", 1),))

    def test_falls_of_other_houses_stay(self):
        row = EVENTS + (("fall", 2, ()), ("fall", 0, ()))
        self.check(HOMES, row, 1, 0, EVENTS + (("fall", 2, ()), ("fall", 0, ((2, 0),))), (("up", 0),))

    def test_cards_of_deeds_gone_ahead_of_the_fall_are_not_kept(self):
        row = (word(0, 1), word(1, 1), word(0, 2, 1), ("fall", 1, ()), ("up", 1), word(0, 3), ("fall", 0, ()))
        self.assertEqual(gone(HOMES, row), (1, 2))
        self.check(HOMES, row, 1, 0, row[:6] + (("fall", 0, ((3, 0),)),), (("up", 0),))

    def test_cards_of_deeds_gone_behind_the_fall_are_kept(self):
        row = (word(0, 1), word(1, 1), read(0, 1), ("fall", 0, ()), ("fall", 1, ()), ("up", 1))
        self.assertEqual(gone(HOMES, row), (1, 2))
        one = row[:3] + (("fall", 0, ((2, 0),)),) + row[4:]
        self.check(HOMES, row, 1, 0, one, (("up", 0),))

    def test_houses_that_came_up_behind_the_fall(self):
        row = (word(0, 1), ("sync", 0), ("fall", 0, ()), ("fall", 1, ()), ("up", 1))
        self.assertEqual(marks(HOMES, row, 1), (0, 1, 0))
        self.check(HOMES, row, 1, 0, (word(0, 1), ("fall", 0, ()), ("fall", 1, ()), ("up", 1)), (("up", 0),))


class DoubtAtTheEdges(DoubtCase):
    def test_rows_of_64_events(self):
        row = (word(0, 1),) * 64
        one, more = doubt(HOMES, row, 1, 63)
        self.assertEqual(len(one + more), 66)
        self.check(HOMES, row, 1, 63, row, (("fall", 0, tuple((deed, 0) for deed in range(1, 64))), ("up", 0)))
        self.check(HOMES, row, 1, 0, one, more)
        down = (word(0, 1),) * 63 + (("fall", 0, ()),)
        kept = tuple((deed, 0) for deed in range(1, 63))
        self.check(HOMES, down, 1, 62, down[:63] + (("fall", 0, kept),), (("up", 0),))
        synced = (word(0, 1),) * 32 + (("sync", 0),) * 32
        kept = tuple((deed, 0) for deed in range(1, 32))
        self.check(HOMES, synced, 1, 31, synced[:32], (("fall", 0, kept), ("up", 0)))

    def test_known_sure_deeds(self):
        row = SYNCED + (("sync", 1), ("send", 1, 0), ("hear", 0), ("send", 2, 0))
        self.assertEqual(known_sure(HOMES, row, 0), (0, 1))
        for deed in (0, 1):
            self.assertRaises(NotMade, doubt, HOMES, row, 0, deed)
        doubt(HOMES, row, 0, 2)
        for deed in (0, 1, 2):
            self.assertRaises(NotMade, doubt, HOMES, row + (("hear", 1),), 0, deed)

    def test_gone_deeds(self):
        row = EVENTS + (("fall", 1, ()), ("up", 1))
        for deed in (1, 2):
            for house in (0, 1, 2):
                self.assertRaises(NotMade, doubt, HOMES, row, house, deed)
        doubt(HOMES, row, 0, 0)


class WrongInputs(unittest.TestCase):
    FUNCTIONS = [
        marks, known_sure,
        lambda homes, row, house: alike_to(homes, row, row, house),
        lambda homes, row, house: doubt(homes, row, house, 0),
    ]

    def test_wrong_homes_and_rows(self):
        for function in self.FUNCTIONS:
            for homes in WRONG_HOMES:
                self.assertRaises(BadHomes, function, homes, EVENTS, 0)
                self.assertRaises(BadHomes, function, homes, None, None)
            for value in NOT_TUPLES:
                self.assertRaises(BadRow, function, HOMES, value, 0)
                self.assertRaises(BadRow, function, HOMES, value, None)
            for value in WRONG_EVENTS:
                with self.assertRaises(BadRow) as caught:
                    function(HOMES, EVENTS + (value,), 0)
                self.assertEqual(caught.exception.index, 3)

    def test_wrong_houses(self):
        for function in self.FUNCTIONS:
            for row in ((word(0, 1),), EVENTS, EVENTS + (("fall", 0, ()), ("fall", 1, ()), ("fall", 2, ()))):
                for value in WRONG_HOUSE:
                    self.assertRaises(BadHouse, function, HOMES, row, value)

    def test_the_greatest_house(self):
        for house in range(5):
            for function in self.FUNCTIONS:
                if house <= 2:
                    function((2,), (word(0, 1),), house)
                else:
                    self.assertRaises(BadHouse, function, (2,), (word(0, 1),), house)

    def test_wrong_deeds(self):
        for value in NOT_INTEGERS + [-1, -3, 3, 4, 63, 64, 10 ** 30]:
            self.assertRaises(BadDeed, doubt, HOMES, EVENTS, 0, value)
            self.assertRaises(BadDeed, doubt, HOMES, EVENTS + (("fall", 0, ()),), 0, value)
            self.assertRaises(BadHouse, doubt, HOMES, EVENTS, 3, value)
        self.assertRaises(BadDeed, doubt, HOMES, (), 0, 0)

    def test_not_now_comes_behind_the_errors_of_arguments_and_ahead_of_not_made(self):
        down = EVENTS + (("sync", 0), ("fall", 1, ()), ("up", 1), ("fall", 0, ()))
        self.assertEqual([gone(HOMES, down), sure(HOMES, down), unsafe(HOMES, down)], [(1, 2), (0,), ()])
        for deed in (0, 1, 2):
            self.assertRaises(NotNow, doubt, HOMES, down, 0, deed)
        self.assertRaises(BadDeed, doubt, HOMES, down, 0, 3)
        self.assertRaises(NotMade, doubt, HOMES, down, 1, 1)

    def test_arguments_stay_as_they_are(self):
        row = [word(0, 1), ("sync", 0)]
        for function in self.FUNCTIONS:
            self.assertRaises(BadRow, function, HOMES, row, 0)
            self.assertRaises(BadHouse, function, HOMES, EVENTS, row)
        self.assertEqual(row, [word(0, 1), ("sync", 0)])


if __name__ == "__main__":
    unittest.main()
