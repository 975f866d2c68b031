"""Points 4 to 9 on many rows, beside a second account of them; the rows are the same in each run."""

import random
import unittest

from keptabroad.errors import BadRow
from keptabroad.rows import can_come, gone, leans, needs, standing, sure, unsafe, ups, words
from tests.model import Told, some_event, some_homes


class ManyRows(unittest.TestCase):
    def compare(self, told):
        homes, row = told.homes, told.row
        end = len(row)
        self.assertEqual(gone(homes, row), tuple(sorted(told.gone(end))))
        self.assertEqual(standing(homes, row), tuple(told.standing(end)))
        self.assertEqual(words(homes, row), told.words(end))
        self.assertEqual(ups(homes, row), tuple(h for h in range(max(homes) + 1) if told.is_up(h, end)))
        self.assertEqual(unsafe(homes, row), tuple(told.unsafe(end)))
        self.assertEqual(sure(homes, row), tuple(told.sure(end)))
        for deed in told.done(end):
            self.assertEqual(needs(homes, row, deed), tuple(sorted(told.needs(deed))))
            self.assertEqual(leans(homes, row, deed), tuple(sorted(told.leans_of(deed))))

    def compare_worst(self, told):
        """If all houses fall now and keep nothing, just the sure deeds stand behind it."""
        homes, row = told.homes, told.row
        before = sure(homes, row)
        row += tuple(("fall", house, ()) for house in ups(homes, row))
        row += tuple(("up", house) for house in range(max(homes) + 1))
        self.assertEqual(standing(homes, row), before)
        self.assertEqual(sure(homes, row), before)
        self.assertEqual(unsafe(homes, row), ())

    def test_the_two_accounts_agree(self):
        kinds = {}
        for seed in range(400):
            chance = random.Random(seed)
            homes = some_homes(chance)
            row = ()
            for _ in range(chance.randint(5, 40)):
                told = Told(homes, row)
                event = some_event(chance, told)
                answer = told.can_come(event)
                kinds[event[0], answer] = kinds.get((event[0], answer), 0) + 1
                self.assertIs(can_come(homes, row, event), answer, (homes, row, event))
                if answer:
                    row += (event,)
                else:
                    self.assertRaises(BadRow, gone, homes, row + (event,))
            told = Told(homes, row)
            self.compare(told)
            self.compare_worst(told)
        for kind in ("do", "sync", "fall", "up", "send", "hear"):
            for answer in (True, False):
                self.assertGreater(kinds.get((kind, answer), 0), 20, (kind, answer))

    def test_a_sure_deed_is_never_gone(self):
        for seed in range(150):
            chance = random.Random(1000 + seed)
            homes = some_homes(chance)
            row, promised = (), set()
            for _ in range(30):
                event = some_event(chance, Told(homes, row))
                if can_come(homes, row, event):
                    row += (event,)
                    promised |= set(sure(homes, row))
                    self.assertFalse(promised & set(gone(homes, row)))
                    self.assertEqual(tuple(sorted(promised)), sure(homes, row))


if __name__ == "__main__":
    unittest.main()
