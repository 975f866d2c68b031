"""Point 16: which lots of deeds can come of falls."""

import unittest
from itertools import product

from keptabroad.errors import BadHomes, BadHouses, BadLot, BadRow, NotNow, TooMany
from keptabroad.lots import exposed, keep_for, lots
from keptabroad.rows import gone, standing, sure, unsafe
from tests.model import Told, some_of
from tests.values import (
    EVENTS, HOMES, NOT_TUPLES, WRONG_EVENTS, WRONG_HOMES, WRONG_HOUSES, WRONG_LOTS, read, word, write,
)

SIX = (0, 1, 1, 1, 1, 1)


class LotsCase(unittest.TestCase):
    def check(self, homes, row, houses, found):
        """The lots are as told, just those that can come of all falls, and keep_for leads to each."""
        self.assertEqual(lots(homes, row, houses), found)
        ways = Told(homes, row).lots(houses)
        self.assertEqual(found, tuple(sorted(ways)))
        for lot in found:
            events = keep_for(homes, row, houses, lot)
            self.assertIn(events, ways[lot])
            self.check_events(homes, row, houses, lot, events)
        for lot in some_of(standing(homes, row)):
            if lot not in found:
                self.assertRaises(BadLot, keep_for, homes, row, houses, lot)

    def check_events(self, homes, row, houses, lot, events):
        many = len(houses)
        self.assertEqual([event[:2] for event in events[:many]], [("fall", house) for house in houses])
        self.assertEqual(events[many:], tuple(("up", house) for house in houses))
        for event in events[:many]:
            cards = Told(homes, row).unsafe_at(event[1], len(row))
            self.assertEqual(event[2], tuple(card for card in cards if card[0] in lot))
        if len(row + events) <= 64:
            self.assertEqual(standing(homes, row + events), lot)


class Interface(LotsCase):
    def test_example(self):
        self.assertEqual(exposed(HOMES, EVENTS, (2,)), (2,))
        self.assertEqual(lots(HOMES, EVENTS, (1,)), ((0,), (0, 1, 2)))
        self.assertEqual(keep_for(HOMES, EVENTS, (1,), (0,)), (("fall", 1, ()), ("up", 1)))

    def test_second_example(self):
        self.assertRaises(BadLot, keep_for, HOMES, EVENTS, (1,), (1,))

    def test_all_of_its_row(self):
        self.check(HOMES, EVENTS, (0,), ((), (0, 1), (0, 1, 2)))
        self.check(HOMES, EVENTS, (1,), ((0,), (0, 1, 2)))
        self.check(HOMES, EVENTS, (2,), ((0, 1), (0, 1, 2)))
        self.check(HOMES, EVENTS, (0, 1), ((), (0,), (0, 1), (0, 1, 2)))
        self.check(HOMES, EVENTS, (0, 1, 2), ((), (0,), (0, 1), (0, 1, 2)))


class Exposed(unittest.TestCase):
    def test_no_house(self):
        self.assertEqual(exposed(HOMES, EVENTS, ()), ())
        self.assertEqual(exposed(HOMES, (), ()), ())

    def test_one_house(self):
        self.assertEqual(exposed(HOMES, EVENTS, (0,)), (0, 1, 2))
        self.assertEqual(exposed(HOMES, EVENTS, (1,)), (1, 2))
        self.assertEqual(exposed(HOMES, EVENTS, (2,)), (2,))

    def test_several_houses(self):
        row = (word(0, 1), word(1, 1), word(2, 1))
        self.assertEqual(exposed(HOMES, row, (0, 2)), (0, 2))
        self.assertEqual(exposed(HOMES, row, (0, 1, 2)), (0, 1, 2))

    def test_safe_cards_do_not_count(self):
        row = EVENTS + (("sync", 0),)
        self.assertEqual(exposed(HOMES, row, (0,)), ())
        self.assertEqual(exposed(HOMES, row, (1,)), (1, 2))
        self.assertEqual(exposed(HOMES, row + (word(0, 1),), (0,)), (3,))
        self.assertEqual(exposed(HOMES, EVENTS + (("fall", 1, ((1, 1),)), ("up", 1)), (1,)), ())

    def test_safe_deeds_that_lean_on_an_unsafe_card_count(self):
        row = (word(0, 1), read(1, 0), read(2, 1), ("sync", 1), ("sync", 2))
        self.assertEqual(exposed(HOMES, row, (0,)), (0, 1, 2))
        self.assertEqual(exposed(HOMES, row, (1, 2)), ())

    def test_gone_deeds_do_not_count(self):
        row = EVENTS + (("fall", 1, ()), ("up", 1))
        self.assertEqual(exposed(HOMES, row, (0, 1, 2)), (0,))
        self.assertEqual(exposed(HOMES, row, (1, 2)), ())

    def test_cards_lost_at_other_houses_do_not_count(self):
        row = (write(0, 1), ("fall", 1, ()), word(2, 1))
        self.assertEqual(unsafe(HOMES, row), ((0, 0), (0, 1), (1, 2)))
        self.assertEqual(exposed(HOMES, row, (2,)), (1,))
        self.assertEqual(exposed(HOMES, row, (0,)), (0,))
        self.assertEqual(exposed(HOMES, row, (0, 2)), (0, 1))

    def test_what_is_not_exposed_at_all_houses_is_sure(self):
        for row in (EVENTS, EVENTS + (("sync", 0),), EVENTS + (("sync", 0), ("sync", 1))):
            both = sorted(exposed(HOMES, row, (0, 1, 2)) + sure(HOMES, row))
            self.assertEqual(tuple(both), standing(HOMES, row))


class Lots(LotsCase):
    def test_no_house(self):
        self.check(HOMES, EVENTS, (), ((0, 1, 2),))
        self.check(HOMES, (), (), ((),))
        self.assertEqual(keep_for(HOMES, EVENTS, (), (0, 1, 2)), ())
        self.assertEqual(keep_for(HOMES, (), (), ()), ())

    def test_no_deeds(self):
        self.check(HOMES, (), (0, 1, 2), ((),))
        self.assertEqual(keep_for(HOMES, (), (0, 2), ()), (("fall", 0, ()), ("fall", 2, ()), ("up", 0), ("up", 2)))

    def test_no_open_card(self):
        row = EVENTS + (("sync", 0), ("sync", 1))
        self.check(HOMES, row, (0,), ((0, 1, 2),))
        self.check(HOMES, row, (0, 1), ((0, 1, 2),))
        self.check(HOMES, row + (("sync", 2),), (0, 1, 2), ((0, 1, 2),))
        self.assertEqual(keep_for(HOMES, row, (0, 1), (0, 1, 2)),
                         (("fall", 0, ()), ("fall", 1, ()), ("up", 0), ("up", 1)))

    def test_a_house_without_things(self):
        self.check((0, 3), (word(0, 1),), (1, 2), ((0,),))

    def test_independent_deeds_ascend_as_tuples(self):
        row = (word(0, 1), word(1, 1), word(2, 1))
        self.check(HOMES, row, (0, 1, 2), ((), (0,), (0, 1), (0, 1, 2), (0, 2), (1,), (1, 2), (2,)))
        self.check(HOMES, row, (0, 2), ((0, 1), (0, 1, 2), (1,), (1, 2)))

    def test_a_chain(self):
        row = tuple(word(0, 1) for _ in range(5))
        self.check(HOMES, row, (0,), ((), (0,), (0, 1), (0, 1, 2), (0, 1, 2, 3), (0, 1, 2, 3, 4)))
        row = row[:2] + (("sync", 0),) + row[2:]
        self.check(HOMES, row, (0,), ((0, 1), (0, 1, 2), (0, 1, 2, 3), (0, 1, 2, 3, 4)))

    def test_a_deed_with_cards_at_several_houses(self):
        row = (write(0, 1), word(0, 1), word(1, 1))
        self.check(HOMES, row, (0,), ((), (0, 1, 2), (0, 2)))
        self.check(HOMES, row, (0, 1), ((), (0,), (0, 1), (0, 1, 2), (0, 2)))
        self.assertEqual(keep_for(HOMES, row, (0, 1), (0, 2)),
                         (("fall", 0, ((0, 0),)), ("fall", 1, ((0, 1), (2, 1))), ("up", 0), ("up", 1)))

    def test_deeds_go_with_those_on_which_they_lean(self):
        row = (word(0, 1), read(1, 0), ("sync", 1), read(2, 1))
        self.check(HOMES, row, (0,), ((), (0, 1, 2)))
        self.check(HOMES, row, (0, 2), ((), (0, 1), (0, 1, 2)))

    def test_several_cards_of_a_deed_at_a_house(self):
        homes = (0, 0, 0, 1)
        row = (write(0, 1), word(2, 1), word(3, 1))
        self.check(homes, row, (0,), ((0, 1, 2), (0, 2), (1, 2), (2,)))
        self.assertEqual(keep_for(homes, row, (0,), (0, 2)), (("fall", 0, ((0, 0), (0, 1))), ("up", 0)))

    def test_gone_deeds_are_in_no_lot(self):
        row = EVENTS + (("fall", 1, ()), ("up", 1), word(1, 1), word(0, 1))
        self.assertEqual(gone(HOMES, row), (1, 2))
        self.check(HOMES, row, (0, 1), ((), (0,), (0, 3), (0, 3, 4), (0, 4), (3,)))

    def test_deeds_with_cards_lost_at_other_houses_stand_still(self):
        row = (write(0, 1), ("fall", 1, ()), word(2, 1), word(0, 1))
        self.check(HOMES, row, (2,), ((0, 1, 2), (0, 2)))
        self.check(HOMES, row, (0,), ((0, 1), (0, 1, 2), (1,)))

    def test_exposed_deeds_are_those_that_some_lot_has_not(self):
        for row in (EVENTS, EVENTS + (word(2, 3), ("sync", 0)), EVENTS + (("fall", 2, ()),)):
            for houses in ((), (0,), (1,), (0, 1)):
                sure_ones = set(standing(HOMES, row)).intersection(*lots(HOMES, row, houses))
                self.assertEqual(sure_ones, set(standing(HOMES, row)) - set(exposed(HOMES, row, houses)))

    def test_64_events(self):
        row = (word(0, 1),) * 64
        found = lots(HOMES, row, (0,))
        self.assertEqual(found, tuple(tuple(range(many)) for many in range(65)))
        kept = tuple((deed, 0) for deed in range(40))
        self.assertEqual(keep_for(HOMES, row, (0,), tuple(range(40))), (("fall", 0, kept), ("up", 0)))
        self.assertEqual(lots(HOMES, row, (1, 2)), (tuple(range(64)),))
        self.assertEqual(len(lots(HOMES, (write(0, 1, 2),) * 64, (0, 1, 2))), 65)


def chains(*lengths):
    """A row of chains of deeds, one behind the other, that do not lean on each other: a chain for each thing."""
    return tuple(word(thing, 1) for thing, length in enumerate(lengths) for _ in range(length))


class ManyLots(LotsCase):
    def test_many_independent_deeds(self):
        row = (word(0, 1), word(1, 1), word(2, 1), word(3, 1), word(4, 1), word(5, 1))
        found = lots(SIX, row, (0, 1))
        self.assertEqual(found, tuple(sorted(some_of(range(6)))))
        self.check(SIX, row, (1,), tuple(sorted((0,) + some for some in some_of(range(1, 6)))))

    def test_chains(self):
        row = chains(2, 1, 3)
        ends = product(range(3), range(2), range(4))
        found = sorted(tuple(range(a)) + tuple(range(2, 2 + b)) + tuple(range(3, 3 + c)) for a, b, c in ends)
        self.check(HOMES, row, (0, 1, 2), tuple(found))

    def test_2000_and_2001_lots(self):
        # The lots of chains are as many as the product of their lengths, each with one more.
        row = chains(9, 9, 9, 1)
        homes = (0, 1, 2, 1)
        found = lots(homes, row, (0, 1, 2))
        self.assertEqual(len(found), 2000)
        self.assertEqual(len(set(found)), 2000)
        self.assertEqual(sorted(found), list(found))
        for lot in (found[0], found[1], found[777], found[1999]):
            events = keep_for(homes, row, (0, 1, 2), lot)
            self.check_events(homes, row, (0, 1, 2), lot, events)
        more = row_of_2001()
        for function in (lots, lambda *values: keep_for(*values, ())):
            with self.assertRaises(TooMany) as caught:
                function(homes, more, (0, 1, 2))
            self.assertEqual(caught.exception.most, 2000)
            self.assertIs(type(caught.exception.most), int)
        self.assertEqual(exposed(homes, more, (0, 1, 2)), standing(homes, more))

    def test_one_more_lot_than_2000_ways(self):
        # Of the 2001 lots one holds the last deed: without it there are just 2000.
        homes = (0, 1, 2, 1)
        more = row_of_2001()
        self.assertEqual(len(lots(homes, more[:-1], (0, 1, 2))), 2000)
        self.assertEqual(more[:-1], chains(9, 9, 9, 1))
        self.assertRaises(TooMany, lots, homes, more, (0, 1, 2))

    def test_very_many_lots(self):
        homes = (0, 1, 2, 3, 0, 1)
        row = chains(10, 10, 11, 11, 11, 11)
        for houses in ((0, 1, 2, 3), (0, 1)):
            self.assertRaises(TooMany, lots, homes, row, houses)
            self.assertRaises(TooMany, keep_for, homes, row, houses, ())
        self.assertEqual(len(lots(homes, row, (2,))), 12)
        self.assertEqual(len(lots(homes, row, (2, 3))), 144)


def row_of_2001():
    """The chains that make 2000 lots, and a deed that leans on all of them: it stands in one more lot alone."""
    return chains(9, 9, 9, 1) + (("do", (0, 1, 2), ((3, "sum", 0),)),)


class WrongInputs(unittest.TestCase):
    FUNCTIONS = [exposed, lots, lambda homes, row, houses: keep_for(homes, row, houses, ())]

    def test_wrong_homes_and_rows(self):
        for function in self.FUNCTIONS:
            for homes in WRONG_HOMES:
                self.assertRaises(BadHomes, function, homes, EVENTS, (0,))
                self.assertRaises(BadHomes, function, homes, None, None)
            for value in NOT_TUPLES:
                self.assertRaises(BadRow, function, HOMES, value, (0,))
                self.assertRaises(BadRow, function, HOMES, value, None)
            for value in WRONG_EVENTS:
                with self.assertRaises(BadRow) as caught:
                    function(HOMES, EVENTS + (value,), (0,))
                self.assertEqual(caught.exception.index, 3)

    def test_wrong_houses(self):
        down = EVENTS + (("fall", 0, ()), ("fall", 1, ()), ("fall", 2, ()))
        for function in self.FUNCTIONS:
            for row in ((), EVENTS, down):
                for value in WRONG_HOUSES:
                    self.assertRaises(BadHouses, function, HOMES, row, value)
        for value in WRONG_HOUSES:
            self.assertRaises(BadHouses, keep_for, HOMES, EVENTS, value, None)
            self.assertRaises(BadHouses, keep_for, (0, 1, 2, 1), row_of_2001(), value, None)

    def test_the_greatest_house(self):
        self.assertEqual(exposed((2,), (word(0, 1),), (0, 1, 2)), (0,))
        for function in self.FUNCTIONS:
            self.assertRaises(BadHouses, function, (2,), (word(0, 1),), (0, 1, 2, 3))

    def test_houses_that_are_not_up(self):
        row = EVENTS + (("fall", 1, ()),)
        for houses in ((1,), (0, 1), (1, 2), (0, 1, 2)):
            self.assertRaises(NotNow, exposed, HOMES, row, houses)
            self.assertRaises(NotNow, lots, HOMES, row, houses)
            self.assertRaises(NotNow, keep_for, HOMES, row, houses, (0, 1, 2))
        for houses in ((), (0,), (2,), (0, 2)):
            exposed(HOMES, row, houses)
            lots(HOMES, row, houses)
            keep_for(HOMES, row, houses, (0, 1, 2))

    def test_wrong_lots(self):
        for houses in ((), (1,), (0, 1, 2)):
            for value in WRONG_LOTS:
                self.assertRaises(BadLot, keep_for, HOMES, EVENTS, houses, value)
            keep_for(HOMES, EVENTS, houses, (0, 1, 2))
        for value in ((), (0,), (1,), (2,), (0, 1), (1, 2), (0, 2)):
            self.assertRaises(BadLot, keep_for, HOMES, EVENTS, (), value)

    def test_gone_deeds_make_no_lot(self):
        row = EVENTS + (("fall", 1, ()), ("up", 1))
        for value in ((1,), (0, 1), (0, 2), (0, 1, 2)):
            self.assertRaises(BadLot, keep_for, HOMES, row, (0,), value)

    def test_not_now_comes_behind_bad_lot(self):
        row = EVENTS + (("fall", 1, ()),)
        for value in WRONG_LOTS + [(1,), (2,), (0, 2)]:
            self.assertRaises(BadLot, keep_for, HOMES, row, (0, 1), value)
        for lot in ((), (0,), (0, 1), (0, 1, 2)):
            self.assertRaises(NotNow, keep_for, HOMES, row, (0, 1), lot)

    def test_too_many_comes_ahead_of_bad_lot(self):
        homes = (0, 1, 2, 1)
        for value in WRONG_LOTS + [(), (1,), tuple(range(29))]:
            with self.assertRaises(TooMany) as caught:
                keep_for(homes, row_of_2001(), (0, 1, 2), value)
            self.assertEqual(caught.exception.most, 2000)

    def test_not_now_comes_ahead_of_too_many(self):
        homes = (0, 1, 2, 3)
        row = row_of_2001() + (("fall", 1, ()),)
        self.assertRaises(TooMany, lots, homes, row_of_2001(), (0, 1, 2, 3))
        self.assertRaises(NotNow, lots, homes, row, (0, 1, 2, 3))
        self.assertRaises(NotNow, exposed, homes, row, (0, 1, 2, 3))
        self.assertRaises(NotNow, keep_for, homes, row, (0, 1, 2, 3), ())
        self.assertRaises(NotNow, keep_for, homes, row, (0, 1, 2, 3), tuple(range(29)))
        self.assertRaises(BadLot, keep_for, homes, row, (0, 1, 2, 3), (1,))


if __name__ == "__main__":
    unittest.main()
