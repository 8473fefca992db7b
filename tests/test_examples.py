"""Every example that DOC.md gives, word for word."""

import os
import unittest

from compassless.barpapers import lets_bar
from compassless.drawings import read_drawing
from compassless.errors import FloorError, InvalidPaper, InvalidText
from compassless.foeframes import foe_frames
from tests.interface import listed
from tests.samples import SQUARE, ZIG

EXAMPLES = os.path.join(os.path.dirname(__file__), "examples.txt")


def read_examples():
    """Pairs of a line of input and the line that is due, or None."""
    found = []
    with open(EXAMPLES, encoding="utf-8") as file:
        for line in file.read().splitlines():
            if line.startswith("#"):
                continue
            if line.startswith(">>> "):
                found.append([line[4:], None])
            else:
                found[-1][1] = line
    return found


def answer(text, names):
    try:
        return repr(eval(text, names))
    except FloorError as error:
        return "raises " + repr(error)


class Examples(unittest.TestCase):
    def test_word_for_word(self):
        names = listed()
        examples = read_examples()
        self.assertEqual(len(examples), 135)
        for text, due in examples:
            with self.subTest(text):
                if due is None:
                    exec(text, names)
                else:
                    self.assertEqual(answer(text, names), due)

    def test_told_in_prose(self):
        with self.assertRaises(InvalidPaper) as caught:
            lets_bar(SQUARE, ZIG, (0, 1, 0, 0))
        self.assertEqual(vars(caught.exception), {"word": "views", "at": 2})
        with self.assertRaises(InvalidText) as caught:
            read_drawing("")
        self.assertEqual(vars(caught.exception), {"line": 0, "field": 0})
        self.assertEqual(foe_frames(((0, 0), (0, 1))), (0, 2))


if __name__ == "__main__":
    unittest.main()
