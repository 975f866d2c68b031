"""Points 2 and 3: homes, deeds and plain."""

import unittest

from keptabroad.deeds import houses_of, is_deed, plain
from keptabroad.errors import BadDeeds, BadHomes
from tests.values import DEEDS, HOMES, NOT_TUPLES, WRONG_DEEDS, WRONG_HOMES

SET = ((), ((0, "word", 7),))


def word(thing, n, *reads):
    return tuple(reads), ((thing, "word", n),)


def add(thing, n, *reads):
    return tuple(reads), ((thing, "sum", n),)


class Homes(unittest.TestCase):
    def test_interface(self):
        self.assertEqual(houses_of((0, 2)), 3)

    def test_houses_go_to_the_greatest(self):
        for homes, many in (
            ((0,), 1), ((1,), 2), ((3,), 4), ((0, 0), 1), ((3, 0), 4), ((1, 1, 1), 2),
            ((0, 1, 2, 3, 0, 1), 4), ((0,) * 6, 1), ((3,) * 6, 4), ((2, 0, 2, 0, 2), 3),
        ):
            self.assertEqual(houses_of(homes), many)

    def test_number_of_homes(self):
        for many in range(1, 7):
            self.assertEqual(houses_of((0,) * many), 1)
        for many in (0, 7, 8):
            self.assertRaises(BadHomes, houses_of, (0,) * many)

    def test_wrong_homes(self):
        for homes in WRONG_HOMES:
            self.assertRaises(BadHomes, houses_of, homes)
            self.assertRaises(BadHomes, is_deed, homes, SET)
            self.assertRaises(BadHomes, plain, homes, (SET,))


class Deeds(unittest.TestCase):
    def test_interface(self):
        self.assertIs(is_deed((0, 1), ((0,), ((1, "sum", 3),))), True)

    def test_ordinary_deeds(self):
        for deed in DEEDS:
            self.assertIs(is_deed(HOMES, deed), True)

    def test_reads(self):
        for reads in ((), (0,), (2,), (0, 1), (0, 2), (0, 1, 2)):
            self.assertIs(is_deed(HOMES, (reads, ((0, "word", 7),))), True)
        self.assertIs(is_deed((0,) * 6, ((3, 4, 5), ((5, "sum", 0),))), True)
        self.assertIs(is_deed((0,) * 6, ((2, 3, 4, 5), ((5, "sum", 0),))), False)

    def test_writes(self):
        every = tuple((thing, "sum", 0) for thing in range(6))
        for first, last in ((0, 1), (0, 2), (0, 3), (3, 6), (5, 6)):
            self.assertIs(is_deed((0,) * 6, ((), every[first:last])), True)
        for first, last in ((0, 0), (0, 4), (0, 6), (2, 6)):
            self.assertIs(is_deed((0,) * 6, ((), every[first:last])), False)
        self.assertIs(is_deed((0,) * 6, ((), (every[0], every[2], every[5]))), True)

    def test_a_thing_may_be_read_and_written(self):
        self.assertIs(is_deed((3,), ((0,), ((0, "sum", 1),))), True)

    def test_numbers(self):
        for make in ("word", "sum"):
            for n, answer in ((-1, False), (0, True), (1, True), (999, True), (1000, False), (10 ** 30, False)):
                self.assertIs(is_deed(HOMES, ((), ((0, make, n),))), answer)

    def test_things_are_those_of_homes(self):
        for many in range(1, 7):
            homes = (0,) * many
            self.assertIs(is_deed(homes, word(many - 1, 0, many - 1)), True)
            self.assertIs(is_deed(homes, word(many, 0)), False)
            self.assertIs(is_deed(homes, word(0, 0, many)), False)
        # A thing is no house: house 3 holds one thing alone.
        self.assertIs(is_deed((3,), word(3, 0)), False)

    def test_wrong_deeds(self):
        for value in WRONG_DEEDS:
            self.assertIs(is_deed(HOMES, value), False, value)


class Plain(unittest.TestCase):
    def test_interface(self):
        self.assertEqual(plain((0, 1), (((), ((0, "word", 7),)), ((0,), ((1, "sum", 3),)))), (7, 10))
        with self.assertRaises(BadDeeds) as caught:
            plain((0,), (0,))
        self.assertEqual(caught.exception.index, 0)

    def test_words_are_0_at_first(self):
        self.assertEqual(plain((0,), ()), (0,))
        self.assertEqual(plain((0, 1, 2, 3, 0, 1), ()), (0,) * 6)
        self.assertEqual(plain((0, 1), (add(1, 5, 0, 1),)), (0, 5))

    def test_word_takes_no_account_of_reads(self):
        self.assertEqual(plain((0, 1), (word(0, 9), word(1, 4, 0, 1))), (9, 4))

    def test_sum_adds_all_reads(self):
        three = (word(0, 1), word(1, 20), word(2, 300))
        homes = (0, 1, 2, 3)
        self.assertEqual(plain(homes, three + (add(3, 5),)), (1, 20, 300, 5))
        self.assertEqual(plain(homes, three + (add(3, 5, 0),)), (1, 20, 300, 6))
        self.assertEqual(plain(homes, three + (add(3, 5, 0, 2),)), (1, 20, 300, 306))
        self.assertEqual(plain(homes, three + (add(3, 5, 0, 1, 2),)), (1, 20, 300, 326))
        self.assertEqual(plain(homes, three + (add(2, 5, 0, 1, 2),)), (1, 20, 326, 0))

    def test_rest_by_1000(self):
        self.assertEqual(plain((0, 1), (word(0, 999), add(1, 0, 0))), (999, 999))
        self.assertEqual(plain((0, 1), (word(0, 999), add(1, 1, 0))), (999, 0))
        self.assertEqual(plain((0, 1), (word(0, 999), add(1, 999, 0))), (999, 998))
        high = (word(0, 999), word(1, 999), word(2, 999))
        self.assertEqual(plain((0, 1, 2, 3), high + (add(3, 999, 0, 1, 2),)), (999, 999, 999, 996))

    def test_all_writes_at_once(self):
        swap = ((0, 1), ((0, "sum", 1), (1, "sum", 2), (2, "word", 3)))
        self.assertEqual(plain(HOMES, (word(0, 10), word(1, 20), swap)), (31, 32, 3))
        self.assertEqual(plain(HOMES, (word(0, 10), word(1, 20), swap, swap)), (64, 65, 3))

    def test_in_order(self):
        self.assertEqual(plain((0,), (word(0, 1), word(0, 2))), (2,))
        self.assertEqual(plain((0,), (word(0, 2), add(0, 1, 0))), (3,))
        self.assertEqual(plain((0,), (add(0, 1, 0), word(0, 2))), (2,))
        self.assertEqual(plain(HOMES, DEEDS), (8, 8, 5))

    def test_60_and_61_deeds(self):
        self.assertEqual(plain((0,), (add(0, 20, 0),) * 59), (180,))
        self.assertEqual(plain((0,), (add(0, 20, 0),) * 60), (200,))
        for deeds in ((add(0, 20, 0),) * 61, (None,) * 61, (add(0, 20, 0),) * 200):
            with self.assertRaises(BadDeeds) as caught:
                plain((0,), deeds)
            self.assertIsNone(caught.exception.index)

    def test_no_tuple_of_deeds(self):
        for value in NOT_TUPLES + [[SET], {0: SET}, "deeds"]:
            with self.assertRaises(BadDeeds) as caught:
                plain(HOMES, value)
            self.assertIsNone(caught.exception.index)

    def test_index_of_the_first_wrong_deed(self):
        for value in WRONG_DEEDS:
            for deeds, index in (((value,), 0), (DEEDS + (value,), 3), (DEEDS + (value, value), 3),
                                 ((SET,) * 59 + (value,), 59)):
                with self.assertRaises(BadDeeds) as caught:
                    plain(HOMES, deeds)
                self.assertEqual(caught.exception.index, index)
                self.assertIs(type(caught.exception.index), int)

    def test_a_deed_alone_is_no_tuple_of_deeds(self):
        with self.assertRaises(BadDeeds) as caught:
            plain(HOMES, SET)
        self.assertEqual(caught.exception.index, 0)


if __name__ == "__main__":
    unittest.main()
