"""Point 18: texts of rows."""

import random
import unittest

from keptabroad.errors import BadHomes, BadRow, InvalidText, NotText
from keptabroad.texts import read_row, write_row
from tests.model import some_homes, some_row
from tests.values import EVENTS, HOMES, NOT_STRINGS, NOT_TUPLES, WRONG_EVENTS, WRONG_HOMES, WRONG_LINES, word, write

SIX = (0, 1, 2, 3, 0, 1)


class TextCase(unittest.TestCase):
    def reads(self, homes, text, row):
        """A text and a row that belong together."""
        self.assertEqual(write_row(homes, row), text)
        self.assertEqual(read_row(homes, text), row)

    def fails(self, homes, text, line):
        with self.assertRaises(InvalidText) as caught:
            read_row(homes, text)
        self.assertEqual(caught.exception.line, line, text)
        self.assertIs(type(caught.exception.line), int)


class Interface(TextCase):
    def test_example(self):
        events = (("do", (), ((0, "word", 7),)), ("do", (0,), ((1, "sum", 1),)))
        self.assertEqual(write_row(HOMES, events), "do - 0:word:7\ndo 0 1:sum:1")
        self.assertEqual(read_row(HOMES, "sync 1\nfall 0\nup 0"), (("sync", 1), ("fall", 0, ()), ("up", 0)))

    def test_second_example(self):
        self.fails(HOMES, "up 0", 1)


class Ordinary(TextCase):
    def test_no_event(self):
        for homes in ((0,), (3,), SIX):
            self.reads(homes, "", ())

    def test_do(self):
        self.reads(HOMES, "do - 0:word:0", (("do", (), ((0, "word", 0),)),))
        self.reads(HOMES, "do 2 0:sum:10", (("do", (2,), ((0, "sum", 10),)),))
        self.reads(HOMES, "do 0.1.2 0:word:999 1:sum:100 2:word:7",
                   (("do", (0, 1, 2), ((0, "word", 999), (1, "sum", 100), (2, "word", 7))),))
        self.reads(SIX, "do 0.5 3:sum:1 4:sum:2 5:sum:3",
                   (("do", (0, 5), ((3, "sum", 1), (4, "sum", 2), (5, "sum", 3))),))

    def test_sync_up_send_and_hear(self):
        self.reads(HOMES, "sync 0\nsync 2", (("sync", 0), ("sync", 2)))
        self.reads(HOMES, "fall 2\nup 2", (("fall", 2, ()), ("up", 2)))
        self.reads(HOMES, "send 0 2\nhear 0\nsend 2 1\nhear 1\nhear 0",
                   (("send", 0, 2), ("hear", 0), ("send", 2, 1), ("hear", 1), ("hear", 0)))

    def test_fall(self):
        homes = (0, 0, 1)
        text = "do - 0:word:1 1:word:1 2:word:1\ndo - 1:word:1\n"
        row = (write(0, 1, 2), word(1, 1))
        for line, keep in (("fall 0", ()), ("fall 0 0:0", ((0, 0),)), ("fall 0 0:1 1:1", ((0, 1), (1, 1))),
                           ("fall 0 0:0 0:1 1:1", ((0, 0), (0, 1), (1, 1)))):
            self.reads(homes, text + line, row + (("fall", 0, keep),))

    def test_numbers_of_two_digits(self):
        row = (word(0, 1),) * 12 + (("fall", 0, ((0, 0), (9, 0), (10, 0), (11, 0))),)
        self.reads(HOMES, "do - 0:word:1\n" * 12 + "fall 0 0:0 9:0 10:0 11:0", row)
        row = (("send", 0, 1),) * 63 + (("hear", 62),)
        self.reads(HOMES, "send 0 1\n" * 63 + "hear 62", row)
        row = (("send", 0, 1),) * 11 + (("hear", 10),)
        self.reads(HOMES, "send 0 1\n" * 11 + "hear 10", row)

    def test_the_rows_of_other_tests(self):
        self.reads(HOMES, "do - 0:word:7\ndo 0 1:sum:1\ndo 1 0:sum:0 2:word:5", EVENTS)

    def test_64_events(self):
        self.reads(HOMES, "\n".join(["sync 0"] * 64), (("sync", 0),) * 64)

    def test_read_row_gives_back_what_write_row_wrote(self):
        seen = {}
        for seed in range(150):
            chance = random.Random(seed)
            homes = some_homes(chance)
            row = some_row(chance, homes, chance.randint(0, 64))
            text = write_row(homes, row)
            self.assertEqual(text.count("\n"), max(0, len(row) - 1))
            self.assertEqual(read_row(homes, text), row)
            for end in range(len(row) + 1):
                self.assertEqual(write_row(homes, row[:end]), "\n".join(text.split("\n")[:end]))
            for event in row:
                seen[event[0]] = seen.get(event[0], 0) + 1
        for kind in ("do", "sync", "fall", "up", "send", "hear"):
            self.assertGreater(seen[kind], 40, seen)

    def test_kinds_of_what_is_read(self):
        row = read_row(HOMES, "do 0 1:sum:1\nfall 1 0:1\nup 1\nsend 0 1\nhear 0")
        self.assertIs(type(row), tuple)
        self.assertEqual(repr(row), repr((("do", (0,), ((1, "sum", 1),)), ("fall", 1, ((0, 1),)), ("up", 1),
                                          ("send", 0, 1), ("hear", 0))))


class WrongTexts(TextCase):
    def test_wrong_lines(self):
        ahead = "send 0 1\ndo - 0:word:1 1:word:1 2:word:1\n"
        for line in WRONG_LINES:
            self.fails(HOMES, ahead + line, 3)
            self.fails(HOMES, ahead + line + "\nsync 0", 3)
            self.fails(HOMES, ahead + line + "\nup 0\nx", 3)
            if line:
                self.fails(HOMES, line, 1)

    def test_every_other_text_that_differs_in_one_character(self):
        """A line that differs in one character is another event, or none."""
        text = "do 0.2 1:word:10 2:sum:1"
        row = read_row(HOMES, text)
        for place in range(len(text) + 1):
            for sign in ("", " ", "0", "1", "9", ".", ":", "-", "+", "_", "\t", "\r", "x", "\u0661", "\u00b2", "\x00"):
                for end in (place, place + 1):
                    other = text[:place] + sign + text[end:]
                    try:
                        found = read_row(HOMES, other)
                    except InvalidText as error:
                        self.assertEqual(error.line, 1)
                        continue
                    self.assertEqual(write_row(HOMES, found), other)
                    self.assertEqual(found == row, other == text)

    def test_empty_lines(self):
        self.fails(HOMES, "\n", 1)
        self.fails(HOMES, "\n\n", 1)
        self.fails(HOMES, "\nsync 0", 1)
        self.fails(HOMES, "sync 0\n", 2)
        self.fails(HOMES, "sync 0\n\n", 2)
        self.fails(HOMES, "sync 0\n\nsync 1", 2)
        self.fails(HOMES, "sync 0\nsync 1\n", 3)
        self.fails(HOMES, " ", 1)

    def test_other_ends_of_lines(self):
        for sign in ("\r", "\r\n", "\x0b", "\x0c", "\x1c", "\x1d", "\x1e", "\x85", "\u2028", "\u2029", ";", ",", "\\n"):
            self.fails(HOMES, "sync 0" + sign + "sync 1", 1)
            self.fails(HOMES, "sync 0" + sign, 1)

    def test_events_that_cannot_come_there(self):
        self.fails(HOMES, "sync 0\nup 0", 2)
        self.fails(HOMES, "fall 1\nsync 0\nsync 1", 3)
        self.fails(HOMES, "fall 1\nfall 1", 2)
        self.fails(HOMES, "fall 1\ndo 1 0:word:1", 2)
        self.fails(HOMES, "fall 1\ndo - 1:word:1", 2)
        self.fails(HOMES, "fall 1\nsend 1 0", 2)
        self.fails(HOMES, "hear 0", 1)
        self.fails(HOMES, "send 0 1\nhear 1", 2)
        self.fails(HOMES, "send 0 1\nfall 1\nhear 0", 3)
        self.fails(HOMES, "fall 0 0:0", 1)
        self.fails(HOMES, "do - 0:word:1\nfall 1 0:0", 2)
        self.fails(HOMES, "do - 0:word:1\nsync 0\nfall 0 0:0", 3)
        self.fails(HOMES, "do - 0:word:1\nfall 0 63:0", 2)

    def test_the_first_wrong_line(self):
        for line in range(1, 65):
            good, bad = ["sync 0"] * (line - 1), ["up 0"] * (66 - line)
            self.fails(HOMES, "\n".join(good + bad), line)
            self.fails(HOMES, "\n".join(good + ["sync 9"] + bad), line)

    def test_a_65th_line(self):
        good = "\n".join(["sync 0"] * 64)
        for line in ("sync 0", "up 0", "", "x", "sync 0\nsync 0", "\n", "\n" * 1000):
            self.fails(HOMES, good + "\n" + line, 65)
        self.fails(HOMES, "\n".join(["sync 0"] * 5000), 65)

    def test_numbers_fit_the_homes(self):
        self.reads((0,), "sync 0", (("sync", 0),))
        self.fails((0,), "sync 1", 1)
        self.fails((0,), "do - 1:word:0", 1)
        self.fails((0,), "do 1 0:word:0", 1)
        self.fails((0, 1), "send 0 2", 1)
        self.fails((3,), "do - 3:word:0", 1)
        self.reads((3,), "sync 3\nsync 1\nsend 1 2", (("sync", 3), ("sync", 1), ("send", 1, 2)))
        self.fails((3,), "sync 4", 1)

    def test_very_long_numbers(self):
        for many in (4, 20, 4300, 5000, 100000):
            self.fails(HOMES, "sync " + "1" * many, 1)
            self.fails(HOMES, "sync " + "0" * many, 1)
            self.fails(HOMES, "do - 0:word:" + "9" * many, 1)
            self.fails(HOMES, "hear " + "9" * many, 1)


class WrongInputs(TextCase):
    def test_wrong_homes(self):
        for homes in WRONG_HOMES:
            self.assertRaises(BadHomes, write_row, homes, ())
            self.assertRaises(BadHomes, write_row, homes, None)
            self.assertRaises(BadHomes, read_row, homes, "")
            self.assertRaises(BadHomes, read_row, homes, "sync 0")
            self.assertRaises(BadHomes, read_row, homes, None)
            self.assertRaises(BadHomes, read_row, homes, "x")

    def test_wrong_rows(self):
        for value in NOT_TUPLES + [[("sync", 0)], (("sync", 0),) * 65]:
            with self.assertRaises(BadRow) as caught:
                write_row(HOMES, value)
            self.assertIsNone(caught.exception.index)
        for value in WRONG_EVENTS + [("up", 0), ("hear", 0), ("fall", 0, ((63, 0),))]:
            with self.assertRaises(BadRow) as caught:
                write_row(HOMES, EVENTS + (value, None))
            self.assertEqual(caught.exception.index, 3)

    def test_no_text(self):
        for value in NOT_STRINGS:
            self.assertRaises(NotText, read_row, HOMES, value)


if __name__ == "__main__":
    unittest.main()
