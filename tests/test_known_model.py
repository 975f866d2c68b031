"""Points 10 to 16 and 20 on many rows, beside a second account of them; the rows are the same in each run."""

import random
import unittest

from keptabroad.errors import BadLot, NotMade, NotNow
from keptabroad.keeps import must_keep, newest
from keptabroad.knows import alike_to, doubt, known_sure, marks, news
from keptabroad.lots import exposed, keep_for, lots
from keptabroad.rows import standing, sure
from tests.model import Told, some_homes, some_of, some_row


class ManyRows(unittest.TestCase):
    def setUp(self):
        self.seen = {}

    def see(self, *what):
        self.seen[what] = self.seen.get(what, 0) + 1

    def is_seen(self, many, *kinds):
        for kind in kinds:
            self.assertGreaterEqual(self.seen.get(kind, 0), many, (kind, self.seen))

    def rows(self, first, last, most):
        for seed in range(first, last):
            chance = random.Random(seed)
            homes = some_homes(chance)
            row = some_row(chance, homes, chance.randint(5, most))
            told = Told(homes, row)
            yield told, [house for house in told.houses if told.is_up(house, len(row))]

    def is_doubt(self, told, house, card, one, more):
        """The pair is as told, alike to the row, and has the card's deed gone; the account of it all."""
        self.assertEqual((one, more), told.doubt_of(house, card))
        self.assertIs(alike_to(told.homes, told.row, one, house), True)
        self.assertTrue(told.is_alike(Told(told.homes, one), house))
        behind = Told(told.homes, one + more)
        self.assertIn(card[0], behind.gone(len(one + more)))
        self.see("doubt", len(more), len(one) < len(told.row))
        return behind

    def test_what_houses_know(self):
        for told, ups in self.rows(0, 120, 40):
            homes, row, end = told.homes, told.row, len(told.row)
            for house in told.houses:
                if house not in ups:
                    self.assertRaises(NotNow, marks, homes, row, house)
                    self.assertRaises(NotNow, known_sure, homes, row, house)
                    continue
                self.assertEqual(marks(homes, row, house), tuple(told.marks(house, end)))
                self.assertEqual(known_sure(homes, row, house), tuple(told.known_sure(house)))
                self.assertLessEqual(set(known_sure(homes, row, house)), set(sure(homes, row)))

    def test_doubt(self):
        for told, ups in self.rows(200, 270, 40):
            for house in ups:
                known = told.known_sure(house)
                for deed in told.done(len(told.row)):
                    if deed in known or deed in told.gone(len(told.row)):
                        self.assertRaises(NotMade, doubt, told.homes, told.row, house, deed)
                        continue
                    one, more = doubt(told.homes, told.row, house, deed)
                    card = told.unknown(house, told.leans_of(deed))[0]
                    behind = self.is_doubt(told, house, card, one, more)
                    self.assertIn(deed, behind.gone(len(one + more)))
        self.is_seen(20, ("doubt", 1, False), ("doubt", 1, True), ("doubt", 2, False), ("doubt", 2, True))

    def test_alike_rows(self):
        for told, ups in self.rows(300, 340, 12):
            homes, row = told.homes, told.row
            for place in range(len(row)):
                other = row[:place] + row[place + 1:]
                try:
                    standing(homes, other)
                except ValueError:
                    continue
                changed = Told(homes, other)
                for house in ups:
                    if changed.is_up(house, len(other)):
                        answer = told.is_alike(changed, house)
                        self.assertIs(alike_to(homes, row, other, house), answer)
                        self.assertIs(alike_to(homes, other, row, house), answer)
                        self.see("alike", answer)
                    else:
                        self.assertRaises(NotNow, alike_to, homes, row, other, house)
                        self.assertRaises(NotNow, alike_to, homes, other, row, house)
        self.is_seen(50, ("alike", True), ("alike", False))

    def test_news(self):
        for told, ups in self.rows(400, 440, 30):
            for house in ups:
                for deed in told.done(len(told.row)):
                    best = None
                    if deed not in told.gone(len(told.row)):
                        best = told.news(house, deed)
                    if best is None:
                        self.assertRaises(NotMade, news, told.homes, told.row, house, deed)
                        self.see("news", None)
                        continue
                    self.assertEqual(news(told.homes, told.row, house, deed), best)
                    self.see("news", len([event for event in best if event[0] == "send"]))
                    self.see("news syncs", len([event for event in best if event[0] == "sync"]))
        self.is_seen(5, *[("news", many) for many in (None, 0, 1, 2, 3)])
        self.is_seen(5, *[("news syncs", many) for many in range(4)])

    def test_must_keep_and_newest(self):
        for told, ups in self.rows(500, 640, 40):
            homes, row = told.homes, told.row
            for house in ups:
                self.assertEqual(must_keep(homes, row, house), tuple(told.must_keep(house)))
            for thing, house in enumerate(homes):
                for card in told.cards_of(thing):
                    if house in ups:
                        self.compare_newest(told, card)
                    else:
                        self.assertRaises(NotNow, newest, homes, row, card)
        self.is_seen(20, ("newest", 0), ("newest", 1), ("newest", 2), ("newest", None))

    def compare_newest(self, told, card):
        why = told.why_kept(card)
        if why == []:
            self.assertRaises(NotMade, newest, told.homes, told.row, card)
            self.see("newest", None)
            return
        one, more = newest(told.homes, told.row, card)
        self.see("newest", len(more))
        if why is None:
            self.assertEqual((one, more), (told.row, ()))
            return
        behind = self.is_doubt(told, told.homes[card[1]], why[0], one, more)
        self.assertEqual(behind.cards_of(card[1])[-1], card)

    def test_lots(self):
        for told, ups in self.rows(700, 760, 20):
            homes, row = told.homes, told.row
            for houses in some_of(ups):
                if sum(len(told.unsafe_at(house, len(row))) for house in houses) > 5:
                    continue
                ways = told.lots(houses)
                found = lots(homes, row, houses)
                self.assertEqual(found, tuple(sorted(ways)))
                for lot in found:
                    self.assertIn(keep_for(homes, row, houses, lot), ways[lot])
                stays = [deed for deed in standing(homes, row) if all(deed in lot for lot in found)]
                self.assertEqual(sorted(exposed(homes, row, houses) + tuple(stays)), list(standing(homes, row)))
                self.compare_others(told, houses, found)
                self.see("lots", len(found))
        self.is_seen(20, *[("lots", many) for many in (1, 2, 3, 4)])

    def compare_others(self, told, houses, found):
        """Lots with one deed more or less are told from those that are none."""
        homes, row = told.homes, told.row
        for lot in found[:3]:
            for deed in range(len(told.places)):
                other = tuple(sorted(set(lot) ^ {deed}))
                if other not in found:
                    self.assertRaises(BadLot, keep_for, homes, row, houses, other)


if __name__ == "__main__":
    unittest.main()
