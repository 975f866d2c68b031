"""Point 17: the fewest syncs behind which wished deeds are sure."""

import random
import unittest
from itertools import combinations, product

from keptabroad.errors import BadDeeds, BadHomes, BadWishes, NotMade
from keptabroad.rows import leans, sure
from keptabroad.syncs import apart, fewest_syncs, synced_row
from tests.model import Told, some_event
from tests.values import (
    DEEDS, EVENTS, HOMES, NOT_TUPLES, WRONG_DEEDS, WRONG_HOMES, WRONG_WISHES, read, word, write,
)

FUNCTIONS = [fewest_syncs, apart, synced_row]


def deeds_of(*events):
    return tuple(event[1:] for event in events)


def events_of(deeds):
    return tuple(("do",) + deed for deed in deeds)


def stretches_of(homes, deeds, wishes):
    """For each house the stretches of the wishes at it, told from the whole row at once."""
    told = Told(homes, events_of(deeds))
    found = {house: [] for house in range(max(homes) + 1)}
    for deed, moment in wishes:
        for house in found:
            there = [other for other in told.leans_of(deed) for thing in told.writes(other) if homes[thing] == house]
            if there:
                found[house].append((max(there) + 1, moment))
    return found


def by_hand(homes, deeds, wishes):
    """The stretches of apart, found step by step as the document tells it."""
    found = []
    for house, stretches in stretches_of(homes, deeds, wishes).items():
        moments = []
        while True:
            left = [one for one in stretches if not any(one[0] <= moment <= one[1] for moment in moments)]
            if not left:
                break
            end = min(last for _, last in left)
            moments.append(end)
            found.append((house, max(first for first, last in left if last == end), end))
    return tuple(found)


def is_granted(homes, deeds, wishes, syncs):
    """Whether all wishes come true, by the sure deeds of the row that ends at the moment of each."""
    return all(deed in sure(homes, row_until(deeds, syncs, moment)) for deed, moment in wishes)


def row_until(deeds, syncs, end):
    row = ()
    for number, event in enumerate(events_of(deeds[:end])):
        row += (event,) + tuple(("sync", house) for moment, house in syncs if moment == number + 1)
    return row


def all_syncs(homes, deeds):
    return list(product(range(1, len(deeds) + 1), range(max(homes) + 1)))


def wishes_of(deeds):
    return [(deed, moment) for deed in range(len(deeds)) for moment in range(deed + 1, len(deeds) + 1)]


def some_deeds(chance, homes, many):
    return deeds_of(*[some_event(chance, Told(homes, ()), ("do",)) for _ in range(many)])


class SyncsCase(unittest.TestCase):
    def check(self, homes, deeds, wishes):
        """All that the document says of three answers but that there are no fewer syncs."""
        syncs = fewest_syncs(homes, deeds, wishes)
        stretches = apart(homes, deeds, wishes)
        self.assertEqual(stretches, by_hand(homes, deeds, wishes))
        self.assertEqual(syncs, tuple((last, house) for house, _, last in stretches))
        self.assertEqual(list(syncs), sorted(set(syncs), key=lambda sync: (sync[1], sync[0])))
        for one, other in combinations(stretches, 2):
            self.assertTrue(one[0] != other[0] or one[2] < other[1], (one, other))
        known = stretches_of(homes, deeds, wishes)
        for house, first, last in stretches:
            self.assertIn((first, last), known[house])
        self.assertTrue(is_granted(homes, deeds, wishes, syncs))
        if len(deeds) + len(syncs) > 64:
            self.assertRaises(NotMade, synced_row, homes, deeds, wishes)
        else:
            self.check_row(homes, deeds, wishes, syncs)
        return syncs

    def check_row(self, homes, deeds, wishes, syncs):
        row = synced_row(homes, deeds, wishes)
        self.assertEqual(row, row_until(deeds, syncs, len(deeds)))
        self.assertEqual(tuple(event for event in row if event[0] == "do"), events_of(deeds))
        places = [place for place, event in enumerate(row) if event[0] == "do"] + [len(row)]
        for number, place in enumerate(places):
            behind = row[places[number - 1] + 1:place] if number else row[:place]
            self.assertEqual(behind, tuple(("sync", house) for moment, house in syncs if moment == number))
            self.assertEqual(list(behind), sorted(behind))
            for deed, moment in wishes:
                if moment == number:
                    self.assertIn(deed, sure(homes, row[:place]))

    def check_fewest(self, homes, deeds, wishes):
        """No tuple with fewer syncs grants the wishes: all of them are tried."""
        syncs = self.check(homes, deeds, wishes)
        every = all_syncs(homes, deeds)
        asked = asked_of(homes, deeds, wishes, every)
        for some in range(2 ** len(every)):
            if bin(some).count("1") < len(syncs):
                self.assertFalse(all(some & each for each in asked), (homes, deeds, wishes, some))
        chosen = sum(1 << every.index(sync) for sync in syncs)
        self.assertTrue(all(chosen & each for each in asked))
        return syncs


def asked_of(homes, deeds, wishes, every):
    """For each card that a wish asks to be safe the syncs that make it so by then, as the bits of a number."""
    told = Told(homes, events_of(deeds))
    found = set()
    for deed, moment in wishes:
        for other in told.leans_of(deed):
            for thing in told.writes(other):
                found.add(sum(1 << place for place, (at, house) in enumerate(every)
                              if house == homes[thing] and other < at <= moment))
    return found


class Interface(unittest.TestCase):
    def test_example(self):
        wishes = ((0, 3), (2, 3))
        self.assertEqual(fewest_syncs(HOMES, DEEDS, wishes), ((3, 0), (3, 1), (3, 2)))
        self.assertEqual(apart(HOMES, DEEDS, wishes), ((0, 3, 3), (1, 2, 3), (2, 3, 3)))
        self.assertEqual(synced_row(HOMES, DEEDS, ((0, 1),))[1], ("sync", 0))

    def test_second_example(self):
        self.assertRaises(BadWishes, fewest_syncs, HOMES, DEEDS, ((0, 0),))


class Ordinary(SyncsCase):
    def test_no_wishes(self):
        for homes, deeds in ((HOMES, DEEDS), (HOMES, ()), ((0,), ())):
            self.assertEqual(self.check_fewest(homes, deeds, ()), ())
            self.assertEqual(apart(homes, deeds, ()), ())
            self.assertEqual(synced_row(homes, deeds, ()), events_of(deeds))

    def test_one_wish_at_each_moment(self):
        deeds = deeds_of(word(0, 1), word(0, 2), word(0, 3))
        for deed, moment in wishes_of(deeds):
            self.assertEqual(self.check_fewest(HOMES, deeds, ((deed, moment),)), ((moment, 0),))
            self.assertEqual(apart(HOMES, deeds, ((deed, moment),)), ((0, deed + 1, moment),))

    def test_a_sync_is_as_late_as_can_be(self):
        deeds = deeds_of(word(0, 1), word(1, 1), word(2, 1))
        self.assertEqual(self.check_fewest(HOMES, deeds, ((0, 3),)), ((3, 0),))
        self.assertEqual(synced_row(HOMES, deeds, ((0, 3),)), events_of(deeds) + (("sync", 0),))
        self.assertEqual(synced_row(HOMES, deeds, ((0, 2),)),
                         events_of(deeds[:2]) + (("sync", 0),) + events_of(deeds[2:]))

    def test_one_sync_for_several_wishes(self):
        deeds = deeds_of(word(0, 1), word(0, 2), word(0, 3), word(0, 4))
        self.assertEqual(self.check_fewest(HOMES, deeds, ((0, 2), (0, 4), (1, 3))), ((2, 0),))
        self.assertEqual(self.check_fewest(HOMES, deeds, ((0, 2), (1, 3), (2, 3), (2, 4))), ((2, 0), (3, 0)))
        self.assertEqual(apart(HOMES, deeds, ((0, 2), (1, 3), (2, 3), (2, 4))), ((0, 1, 2), (0, 3, 3)))
        self.assertEqual(self.check_fewest(HOMES, deeds, tuple(wishes_of(deeds))), ((1, 0), (2, 0), (3, 0), (4, 0)))

    def test_a_stretch_that_begins_at_the_moment_has_it(self):
        deeds = deeds_of(word(0, 1), word(0, 2), word(0, 3))
        self.assertEqual(self.check_fewest(HOMES, deeds, ((0, 2), (1, 3))), ((2, 0),))
        self.assertEqual(self.check_fewest(HOMES, deeds, ((0, 1), (1, 3))), ((1, 0), (3, 0)))

    def test_the_stretch_that_begins_last_of_those_with_one_end(self):
        deeds = deeds_of(word(0, 1), word(0, 2), word(0, 3))
        self.assertEqual(apart(HOMES, deeds, ((0, 3), (1, 3), (2, 3))), ((0, 3, 3),))
        self.assertEqual(apart(HOMES, deeds, ((0, 3), (1, 3))), ((0, 2, 3),))
        self.assertEqual(apart(HOMES, deeds, ((0, 2), (1, 3), (2, 3))), ((0, 1, 2), (0, 3, 3)))

    def test_houses_by_themselves(self):
        deeds = deeds_of(word(2, 1), read(1, 2), word(0, 1), read(2, 1))
        self.assertEqual(self.check_fewest(HOMES, deeds, ((1, 2), (3, 4))), ((2, 1), (2, 2), (4, 2)))
        self.assertEqual(apart(HOMES, deeds, ((1, 2), (3, 4))), ((1, 2, 2), (2, 1, 2), (2, 4, 4)))
        self.assertEqual(synced_row(HOMES, deeds, ((1, 2), (3, 4))), events_of(deeds[:2]) + (("sync", 1), ("sync", 2))
                         + events_of(deeds[2:]) + (("sync", 2),))

    def test_the_last_deed_at_the_house_on_which_the_deed_leans(self):
        deeds = deeds_of(word(0, 1), read(0, 0), word(1, 1), read(2, 0))
        self.assertEqual(self.check_fewest(HOMES, deeds, ((3, 4),)), ((4, 0), (4, 2)))
        self.assertEqual(apart(HOMES, deeds, ((3, 4),)), ((0, 2, 4), (2, 4, 4)))

    def test_deeds_on_which_it_does_not_lean_are_left(self):
        deeds = deeds_of(word(0, 1), word(1, 1), word(2, 1), read(2, 1))
        self.assertEqual(self.check_fewest(HOMES, deeds, ((3, 4),)), ((4, 1), (4, 2)))
        self.assertEqual(self.check_fewest((0, 0, 1), deeds, ((3, 4),)), ((4, 0), (4, 1)))
        self.assertEqual(apart((0, 0, 1), deeds, ((3, 4),)), ((0, 2, 4), (1, 4, 4)))

    def test_several_cards_of_a_deed(self):
        deeds = deeds_of(write(0, 1, 2), word(0, 1))
        self.assertEqual(self.check_fewest(HOMES, deeds, ((0, 1), (1, 2))), ((1, 0), (2, 0), (1, 1), (1, 2)))
        self.assertEqual(self.check_fewest((1, 1, 1), deeds, ((0, 1), (1, 2))), ((1, 1), (2, 1)))

    def test_houses_without_things(self):
        deeds = deeds_of(word(0, 1), word(1, 1))
        self.assertEqual(self.check_fewest((3, 0), deeds, ((0, 1), (1, 2))), ((2, 0), (1, 3)))

    def test_one_moment_at_several_houses_in_their_order(self):
        deeds = deeds_of(write(0, 1, 2), word(1, 1))
        self.assertEqual(synced_row((2, 1, 0), deeds, ((0, 1), (1, 2))),
                         events_of(deeds[:1]) + (("sync", 0), ("sync", 1), ("sync", 2))
                         + events_of(deeds[1:]) + (("sync", 1),))


class TryingAll(SyncsCase):
    def test_all_wishes_of_three_deeds(self):
        for seed in range(6):
            chance = random.Random(seed)
            homes = ((0, 1), (0, 0), (1, 0), (0, 1), (1, 1), (0,))[seed]
            deeds = some_deeds(chance, homes, 3)
            for many in range(7):
                for wishes in combinations(wishes_of(deeds), many):
                    self.check_fewest(homes, deeds, wishes)

    def test_some_wishes_of_some_deeds(self):
        sizes = {}
        for seed in range(160):
            chance = random.Random(1000 + seed)
            homes = tuple(chance.randint(0, 2) for _ in range(chance.randint(1, 5)))
            many = chance.randint(1, {1: 9, 2: 5, 3: 4}[max(homes) + 1])
            deeds = some_deeds(chance, homes, many)
            pool = wishes_of(deeds)
            wishes = tuple(sorted(chance.sample(pool, chance.randint(1, min(5, len(pool))))))
            size = len(self.check_fewest(homes, deeds, wishes))
            sizes[size] = sizes.get(size, 0) + 1
        for size in range(1, 6):
            self.assertGreater(sizes.get(size, 0), 3, sizes)

    def test_what_is_asked_is_what_makes_deeds_sure(self):
        """The quick test by bits and the sure deeds of the row tell the same of any syncs."""
        seen = set()
        for seed in range(40):
            chance = random.Random(2000 + seed)
            homes = tuple(chance.randint(0, 2) for _ in range(chance.randint(1, 4)))
            deeds = some_deeds(chance, homes, chance.randint(1, 5))
            every = all_syncs(homes, deeds)
            wishes = tuple(sorted(chance.sample(wishes_of(deeds), 1)))
            asked = asked_of(homes, deeds, wishes, every)
            for _ in range(20):
                some = chance.getrandbits(len(every))
                syncs = [sync for place, sync in enumerate(every) if some >> place & 1]
                answer = all(some & each for each in asked)
                self.assertIs(is_granted(homes, deeds, wishes, syncs), answer)
                seen.add(answer)
        self.assertEqual(seen, {True, False})

    def test_many_deeds(self):
        for seed in range(12):
            chance = random.Random(3000 + seed)
            homes = tuple(chance.randint(0, 3) for _ in range(chance.randint(1, 6)))
            deeds = some_deeds(chance, homes, chance.randint(10, 30))
            wishes = tuple(sorted(chance.sample(wishes_of(deeds), chance.randint(1, 12))))
            self.check(homes, deeds, wishes)


class Limits(SyncsCase):
    def test_60_deeds(self):
        deeds = deeds_of(*[word(0, 1)] * 60)
        self.assertEqual(self.check((0,), deeds, ((0, 60), (59, 60))), ((60, 0),))
        every = tuple(wishes_of(deeds))
        self.assertEqual(len(every), 1830)
        self.assertEqual(fewest_syncs((0,), deeds, every), tuple((moment, 0) for moment in range(1, 61)))
        self.assertEqual(apart((0,), deeds, every), tuple((0, moment, moment) for moment in range(1, 61)))
        self.assertRaises(NotMade, synced_row, (0,), deeds, every)

    def test_64_and_65_events(self):
        deeds = deeds_of(*[word(0, 1)] * 60)
        four = tuple((deed, deed + 1) for deed in range(4))
        self.assertEqual(len(synced_row((0,), deeds, four)), 64)
        self.check((0,), deeds, four)
        five = four + ((4, 5),)
        self.assertEqual(len(fewest_syncs((0,), deeds, five)), 5)
        self.assertEqual(len(apart((0,), deeds, five)), 5)
        self.assertRaises(NotMade, synced_row, (0,), deeds, five)
        self.assertEqual(len(synced_row((0,), deeds[:59], five)), 64)

    def test_64_and_65_events_at_several_houses(self):
        deeds = deeds_of(*[write(0, 1, 2)] * 31)
        wishes = tuple((deed, deed + 1) for deed in range(11))
        self.assertEqual(len(fewest_syncs(HOMES, deeds, wishes)), 33)
        self.assertEqual(len(synced_row(HOMES, deeds, wishes)), 64)
        self.assertRaises(NotMade, synced_row, HOMES, deeds + deeds[:1], wishes)
        self.assertRaises(NotMade, synced_row, HOMES, deeds, wishes + ((11, 12),))


class WrongInputs(unittest.TestCase):
    def test_wrong_homes(self):
        for function in FUNCTIONS:
            for homes in WRONG_HOMES:
                self.assertRaises(BadHomes, function, homes, DEEDS, ((0, 1),))
                self.assertRaises(BadHomes, function, homes, None, None)

    def raises_bad_deeds(self, deeds, wishes, index):
        for function in FUNCTIONS:
            with self.assertRaises(BadDeeds) as caught:
                function(HOMES, deeds, wishes)
            self.assertEqual(caught.exception.index, index)

    def test_wrong_deeds(self):
        for value in NOT_TUPLES + [[DEEDS[0]], (DEEDS[0],) * 61]:
            self.raises_bad_deeds(value, (), None)
            self.raises_bad_deeds(value, None, None)
        for value in WRONG_DEEDS + [EVENTS[0]]:
            self.raises_bad_deeds((value,), ((0, 1),), 0)
            self.raises_bad_deeds(DEEDS + (value, value), ((0, 1),), 3)
            self.raises_bad_deeds(DEEDS + (value,), ((0, 0),), 3)
        for function in FUNCTIONS:
            with self.assertRaises(BadDeeds) as caught:
                function((0,), DEEDS, ())
            self.assertEqual(caught.exception.index, 1)

    def test_wrong_wishes(self):
        for function in FUNCTIONS:
            for value in WRONG_WISHES:
                self.assertRaises(BadWishes, function, HOMES, DEEDS, value)

    def test_each_pair_that_is_or_is_no_wish(self):
        for many in range(4):
            good = wishes_of(DEEDS[:many])
            for pair in product(range(-1, 6), repeat=2):
                for function in FUNCTIONS:
                    if pair in good:
                        function(HOMES, DEEDS[:many], (pair,))
                    else:
                        self.assertRaises(BadWishes, function, HOMES, DEEDS[:many], (pair,))

    def test_wishes_are_ascending_and_unlike(self):
        for wishes in product(wishes_of(DEEDS), repeat=2):
            for function in FUNCTIONS:
                if wishes[0] < wishes[1]:
                    function(HOMES, DEEDS, wishes)
                else:
                    self.assertRaises(BadWishes, function, HOMES, DEEDS, wishes)

    def test_bad_wishes_come_ahead_of_not_made(self):
        deeds = deeds_of(*[word(0, 1)] * 60)
        wishes = tuple((deed, deed + 1) for deed in range(60))
        self.assertRaises(NotMade, synced_row, HOMES, deeds, wishes)
        self.assertRaises(BadWishes, synced_row, HOMES, deeds, wishes + ((60, 61),))
        self.assertRaises(BadWishes, synced_row, HOMES, deeds, wishes + ((0, 1),))

    def test_answers_are_tuples(self):
        for function in FUNCTIONS:
            found = function(HOMES, DEEDS, ((0, 1), (2, 3)))
            self.assertIs(type(found), tuple)
            self.assertEqual({type(item) for item in found}, {tuple})
        self.assertEqual(leans(HOMES, synced_row(HOMES, DEEDS, ((0, 1),)), 2), (0, 1, 2))


if __name__ == "__main__":
    unittest.main()
