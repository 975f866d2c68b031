"""The interface: its examples, word for word, and the places of its names."""

import ast
import inspect
import pathlib
import re
import unittest

from keptabroad import deeds, desks, errors, keeps, knows, lots, rows, syncs, texts

EXAMPLES = pathlib.Path(__file__).with_name("examples.txt").read_text()

INTERFACE = {
    deeds: ["houses_of(homes)", "is_deed(homes, value)", "plain(homes, deeds)"],
    rows: [
        "can_come(homes, row, value)", "gone(homes, row)", "standing(homes, row)", "words(homes, row)",
        "ups(homes, row)", "needs(homes, row, deed)", "leans(homes, row, deed)", "unsafe(homes, row)",
        "sure(homes, row)",
    ],
    knows: [
        "marks(homes, row, house)", "known_sure(homes, row, house)", "news(homes, row, house, deed)",
        "alike_to(homes, one, other, house)", "doubt(homes, row, house, deed)",
    ],
    keeps: ["must_keep(homes, row, house)", "newest(homes, row, card)"],
    lots: ["exposed(homes, row, houses)", "lots(homes, row, houses)", "keep_for(homes, row, houses, lot)"],
    syncs: ["fewest_syncs(homes, deeds, wishes)", "apart(homes, deeds, wishes)", "synced_row(homes, deeds, wishes)"],
    texts: ["write_row(homes, row)", "read_row(homes, text)"],
}


def examples():
    """For each module what its example enters, and what is told behind it."""
    for part in EXAMPLES.split("## ")[1:]:
        heading, *lines = part.strip().split("\n")
        entries = []
        for line in lines:
            if line.startswith(">>> "):
                entries.append((line[4:], []))
            else:
                entries[-1][1].append(line)
        yield heading, entries


def told(error):
    """An error as the examples tell it."""
    fields = ", ".join(f"{name}={value}" for name, value in vars(error).items())
    return f"raises {type(error).__name__}" + (f"({fields})" if fields else "")


def answer(entry, names):
    """The lines that are told behind an entry."""
    if re.match(r"from |\w+ = ", entry):
        exec(entry, names)
        return []
    try:
        return [repr(eval(entry, names))]
    except errors.KeepError as error:
        return [told(error)]


class Examples(unittest.TestCase):
    def test_word_for_word(self):
        for heading, entries in examples():
            names = {}
            for entry, lines in entries:
                expected = [line if line.startswith("raises ") else repr(ast.literal_eval(line)) for line in lines]
                self.assertEqual(answer(entry, names), expected, (heading, entry))

    def test_each_module_has_its_own(self):
        found = [heading for heading, _ in examples()]
        self.assertEqual(found, [f"keptabroad/{name}.py" for name in (
            "deeds", "rows", "knows", "keeps", "lots", "syncs", "texts", "desks")])
        for heading, entries in examples():
            self.assertTrue(entries[-1][1][0].startswith("raises "), heading)
            self.assertGreaterEqual(len(entries), 3, heading)


class Places(unittest.TestCase):
    def test_functions_are_defined_under_their_headings(self):
        for module, heads in INTERFACE.items():
            for head in heads:
                name = head.partition("(")[0]
                function = getattr(module, name)
                self.assertEqual(function.__module__, module.__name__, head)
                self.assertEqual(name + str(inspect.signature(function)), head)

    def test_desk(self):
        self.assertEqual(desks.Desk.__module__, "keptabroad.desks")
        self.assertEqual(desks.Desk.__bases__, (object,))
        self.assertEqual(str(inspect.signature(desks.Desk)), "(homes)")
        own = vars(desks.Desk)
        self.assertEqual(str(inspect.signature(own["run"])), "(self, line)")
        self.assertEqual(str(inspect.signature(own["undo"])), "(self)")
        self.assertIsInstance(own["row"], property)


if __name__ == "__main__":
    unittest.main()
