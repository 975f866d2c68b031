"""Point 19: a desk."""

import random
import unittest

from keptabroad.desks import Desk
from keptabroad.errors import BadHomes, InvalidText, NotNow, NotText, NothingToUndo
from keptabroad.keeps import must_keep
from keptabroad.knows import known_sure
from keptabroad.rows import can_come, gone, sure, ups, words
from keptabroad.texts import read_row, write_row
from tests.model import LETTERS, Told, some_event, some_homes
from tests.values import EVENTS, HOMES, NOT_STRINGS, WRONG_HOMES, WRONG_LINES, word

# Lines that are neither events nor questions, whatever the row is.
WRONG_QUESTIONS = [
    "Words", "word", "words ", " words", "words 0", "words\n", "\nwords", "WORDS", "words gone",
    "gone ", "gone 0", " gone", "gone\n", "sure ", "sure 0", " sure", "sure  ",
    "knows", "knows ", "knows  0", " knows 0", "knows 0 ", "knows 0 1", "knows 00", "knows 01", "knows -1", "knows +0",
    "knows 3", "knows 4", "knows 10", "knows x", "knows 0\n", "knows\t0", "knows0", "knows \u0660", "knows 0.0",
    "knows -", "knows _0", "knows 0_0", "knows " + "0" * 5000, "knows " + "9" * 5000, "Knows 0",
    "must", "must ", "must  0", " must 0", "must 0 ", "must 0 1", "must 00", "must 01", "must -1", "must +0",
    "must 3", "must 64", "must x", "must 0:0", "must 0\n", "must\t0", "must \u0662", "must " + "1" * 5000, "must None",
    "row", "undo", "ups", "unsafe", "standing", "help", "sync 0\nwords", "words\nsync 0",
]


def desk_with(homes, row):
    """A desk that was told a row."""
    desk = Desk(homes)
    for line in write_row(homes, row).split("\n") if row else ():
        desk.run(line)
    return desk


def spaced(items):
    return " ".join(str(item) for item in items)


class DeskCase(unittest.TestCase):
    def fails(self, desk, line, error):
        """An error that leaves the desk as it was."""
        before = desk.row
        with self.assertRaises(error) as caught:
            desk.run(line)
        if error is InvalidText:
            self.assertEqual(caught.exception.line, 1)
            self.assertIs(type(caught.exception.line), int)
        self.assertEqual(desk.row, before)

    def compare(self, desk, homes, row):
        """The desk answers as the functions of the row."""
        self.assertEqual(desk.row, row)
        self.assertEqual(desk.run("words"), spaced(words(homes, row)))
        self.assertEqual(desk.run("gone"), spaced(gone(homes, row)))
        self.assertEqual(desk.run("sure"), spaced(sure(homes, row)))
        for house in range(5):
            if house in ups(homes, row):
                self.assertEqual(desk.run(f"knows {house}"), spaced(known_sure(homes, row, house)))
                cards = [f"{deed}:{thing}" for deed, thing in must_keep(homes, row, house)]
                self.assertEqual(desk.run(f"must {house}"), spaced(cards))
                continue
            error = NotNow if house <= max(homes) else InvalidText
            self.fails(desk, f"knows {house}", error)
            self.fails(desk, f"must {house}", error)
        self.assertEqual(desk.row, row)


class Interface(DeskCase):
    def test_example(self):
        desk = Desk((0, 1))
        for line, answer in (("do - 0:word:7", None), ("do 0 1:sum:1", None), ("sync 0", None), ("words", "7 8"),
                             ("knows 0", "0"), ("must 1", "1:1")):
            self.assertEqual(desk.run(line), answer)
        self.assertIsNone(desk.undo())
        self.assertEqual(desk.row[-1], ("do", (0,), ((1, "sum", 1),)))
        self.fails(desk, "up 0", NotNow)


class Ordinary(DeskCase):
    def test_a_new_desk(self):
        for homes in ((0,), (3,), (0, 1, 2, 3, 0, 1)):
            desk = Desk(homes)
            self.assertEqual(desk.row, ())
            self.compare(desk, homes, ())
            self.assertEqual(desk.run("words"), spaced([0] * len(homes)))
            for line in ("gone", "sure", "knows 0", "must 0"):
                self.assertEqual(desk.run(line), "")

    def test_each_event(self):
        desk = Desk(HOMES)
        row = (word(0, 1), ("send", 0, 1), ("hear", 0), ("sync", 0), ("fall", 0, ()), ("up", 0), word(1, 2),
               ("fall", 1, ((1, 1),)))
        for end, line in enumerate(["do - 0:word:1", "send 0 1", "hear 0", "sync 0", "fall 0", "up 0", "do - 1:word:2",
                                    "fall 1 1:1"], 1):
            self.assertIsNone(desk.run(line))
            self.compare(desk, HOMES, row[:end])
        self.assertEqual(desk.row, row)

    def test_answers(self):
        desk = desk_with(HOMES, EVENTS + (("sync", 0), ("sync", 2)))
        self.assertEqual([desk.run(line) for line in ("words", "gone", "sure", "knows 0", "knows 1", "knows 2")],
                         ["8 8 5", "", "0", "0", "", ""])
        self.assertEqual([desk.run(f"must {house}") for house in range(3)], ["0:0 2:0", "1:1", "2:2"])
        desk.run("fall 1")
        desk.run("up 1")
        self.assertEqual([desk.run(line) for line in ("words", "gone", "sure", "knows 0", "knows 1")],
                         ["7 0 0", "1 2", "0", "0", ""])
        self.assertEqual([desk.run(f"must {house}") for house in range(3)], ["0:0", "", ""])

    def test_numbers_of_two_digits(self):
        desk = desk_with((0,), (word(0, 1),) * 12 + (("sync", 0), word(0, 2), word(0, 999)))
        self.assertEqual(desk.run("sure"), spaced(range(12)))
        self.assertEqual(desk.run("must 0"), "11:0 12:0 13:0")
        self.assertEqual(desk.run("words"), "999")
        desk.run("fall 0")
        desk.run("up 0")
        self.assertEqual(desk.run("gone"), "12 13")

    def test_questions_are_no_events(self):
        desk = desk_with(HOMES, EVENTS)
        for line in ("words", "gone", "sure", "knows 0", "must 0"):
            self.assertIs(type(desk.run(line)), str)
        desk.undo()
        self.assertEqual(desk.row, EVENTS[:2])

    def test_row_is_a_row(self):
        desk = desk_with(HOMES, EVENTS)
        self.assertIs(type(desk.row), tuple)
        self.assertEqual(repr(desk.row), repr(EVENTS))
        before = desk.row
        desk.run("sync 0")
        self.assertEqual(before, EVENTS)
        self.assertEqual(read_row(HOMES, write_row(HOMES, desk.row)), EVENTS + (("sync", 0),))

    def test_desks_do_not_know_each_other(self):
        one, other = Desk(HOMES), Desk(HOMES)
        one.run("sync 0")
        self.assertEqual(other.row, ())
        self.assertRaises(NothingToUndo, other.undo)
        self.assertEqual(one.row, (("sync", 0),))


class Undo(DeskCase):
    def test_back_to_the_beginning_and_once_more(self):
        row = EVENTS + (("sync", 0), ("fall", 1, ()), ("up", 1), ("send", 0, 2), ("hear", 0))
        desk = desk_with(HOMES, row)
        for end in range(len(row), 0, -1):
            self.compare(desk, HOMES, row[:end])
            self.assertIsNone(desk.undo())
        self.compare(desk, HOMES, ())
        for _ in range(2):
            self.assertRaises(NothingToUndo, desk.undo)
            self.assertEqual(desk.row, ())
        self.assertIsNone(desk.run("sync 1"))
        self.assertEqual(desk.row, (("sync", 1),))

    def test_what_comes_behind_an_undo(self):
        desk = desk_with(HOMES, EVENTS + (("fall", 1, ()), ("up", 1)))
        self.assertEqual(desk.run("gone"), "1 2")
        desk.undo()
        self.assertEqual(desk.run("gone"), "")
        self.fails(desk, "knows 1", NotNow)
        desk.undo()
        self.assertEqual(desk.run("words"), "8 8 5")
        desk.run("fall 1 1:1")
        desk.run("up 1")
        self.compare(desk, HOMES, EVENTS + (("fall", 1, ((1, 1),)), ("up", 1)))

    def test_errors_are_not_taken_back(self):
        desk = desk_with(HOMES, EVENTS)
        for line, error in (("up 0", NotNow), ("x", InvalidText), ("", InvalidText), (None, NotText)):
            self.fails(desk, line, error)
        desk.undo()
        self.assertEqual(desk.row, EVENTS[:2])


def line_of(event):
    """The line of an event, whether it can come or not, told apart from the program."""
    if event[0] == "do":
        reads = ".".join(map(str, event[1])) or "-"
        return " ".join(["do", reads] + [":".join(map(str, part)) for part in event[2]])
    if event[0] == "fall":
        return " ".join(["fall", str(event[1])] + [":".join(map(str, card)) for card in event[2]])
    return " ".join(map(str, event))


class ManyRows(DeskCase):
    def test_runs_of_lines_beside_the_functions(self):
        kinds = {}
        for seed in range(150):
            chance = random.Random(seed)
            homes = some_homes(chance)
            desk, row = Desk(homes), ()
            for _ in range(chance.randint(1, 40)):
                if row and chance.random() < 0.15:
                    desk.undo()
                    row = row[:-1]
                event = some_event(chance, Told(homes, row), LETTERS)
                answer = can_come(homes, row, event)
                if answer:
                    self.assertIsNone(desk.run(line_of(event)))
                    row += (event,)
                else:
                    self.fails(desk, line_of(event), NotNow)
                kinds[event[0], answer] = kinds.get((event[0], answer), 0) + 1
            self.compare(desk, homes, row)
        for kind in ("do", "sync", "fall", "up", "send", "hear"):
            for answer in (True, False):
                self.assertGreater(kinds.get((kind, answer), 0), 5, (kind, answer))


class WrongInputs(DeskCase):
    ROWS = [(), EVENTS, EVENTS + (("fall", 0, ()),), EVENTS + (("send", 0, 1), ("fall", 0, ()), ("fall", 1, ()),
                                                              ("fall", 2, ())), (("sync", 0),) * 64]

    def test_wrong_homes(self):
        for homes in WRONG_HOMES:
            self.assertRaises(BadHomes, Desk, homes)

    def test_no_text(self):
        for row in self.ROWS:
            desk = desk_with(HOMES, row)
            for value in NOT_STRINGS:
                self.fails(desk, value, NotText)

    def test_wrong_lines(self):
        for row in self.ROWS:
            desk = desk_with(HOMES, row)
            for line in WRONG_LINES + WRONG_QUESTIONS:
                self.fails(desk, line, InvalidText)

    def test_several_lines_at_once(self):
        desk = Desk(HOMES)
        for line in ("sync 0\nsync 1", "sync 0\n", "\nsync 0", "words\n", write_row(HOMES, EVENTS)):
            self.fails(desk, line, InvalidText)

    def test_events_that_cannot_come(self):
        desk = desk_with(HOMES, EVENTS + (("send", 0, 1), ("fall", 1, ())))
        for line in ("do - 1:word:1", "do 1 0:word:1", "sync 1", "fall 1", "up 0", "up 2", "send 1 0", "hear 0",
                     "hear 1", "hear 63", "fall 0 1:1", "fall 0 63:0", "fall 0 0:0 2:0 2:2", "fall 2 0:0"):
            self.fails(desk, line, NotNow)
        for line in ("fall 1 64:0", "hear 64", "up 3", "send 1 1", "fall 0 2:0 0:0"):
            self.fails(desk, line, InvalidText)

    def test_houses_that_are_not_up(self):
        desk = desk_with(HOMES, EVENTS + (("fall", 1, ()),))
        for line in ("knows 1", "must 1"):
            self.fails(desk, line, NotNow)
        for line in ("knows 0", "must 0", "knows 2", "must 2"):
            self.assertIs(type(desk.run(line)), str)

    def test_houses_fit_the_homes(self):
        for homes, last in (((0,), 0), ((0, 1), 1), ((2,), 2), ((3, 0), 3)):
            desk = Desk(homes)
            for house in range(6):
                for question in ("knows", "must"):
                    if house <= last:
                        self.assertEqual(desk.run(f"{question} {house}"), "")
                    else:
                        self.fails(desk, f"{question} {house}", InvalidText)

    def test_behind_64_events(self):
        row = EVENTS + (("sync", 0),) * 61
        desk = desk_with(HOMES, row)
        self.assertEqual(len(desk.row), 64)
        for line in ("sync 0", "do - 0:word:1", "fall 0", "send 0 1", "up 0", "hear 0"):
            self.fails(desk, line, NotNow)
        self.compare(desk, HOMES, row)
        desk.undo()
        self.assertIsNone(desk.run("fall 1"))
        self.fails(desk, "up 1", NotNow)
        self.compare(desk, HOMES, row[:63] + (("fall", 1, ()),))


if __name__ == "__main__":
    unittest.main()
