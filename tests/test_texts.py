"""[18] and [19]: drawings, and rows as texts."""

import unittest

from compassless.drawings import read_drawing, show_drawing
from compassless.errors import InvalidText
from compassless.forms import shifted
from compassless.placetexts import place_line, read_places
from tests.samples import BAR, HUGE, SAMPLES, TEN, shuffled_rows


class Texts(unittest.TestCase):
    def refused(self, read, text, line, field):
        with self.assertRaises(InvalidText) as caught:
            read(text)
        self.assertEqual(vars(caught.exception), {"line": line, "field": field}, text)


class Drawings(Texts):
    def test_shown_and_read(self):
        for standing in SAMPLES:
            self.assertEqual(read_drawing(show_drawing(standing)), shifted(standing))

    def test_show(self):
        self.assertEqual(show_drawing(BAR), "ooo")
        self.assertEqual(show_drawing(standing=((0, 0), (0, 2))), "o\n.\no")
        self.assertEqual(show_drawing(((-5, 9), (-3, 8))), "o..\n..o")
        self.assertEqual(show_drawing(((0, 0), (60, 60))).count("\n"), 60)

    def test_not_shifted(self):
        self.assertEqual(read_drawing("..\n.oo"), ((1, 0), (2, 0)))
        self.assertEqual(read_drawing("oo\n."), ((0, 1), (1, 1)))
        self.assertEqual(read_drawing(text="o\n\no"), ((0, 0), (0, 2)))

    def test_newlines_at_the_end(self):
        self.assertEqual(read_drawing("oo"), ((0, 0), (1, 0)))
        self.assertEqual(read_drawing("oo\n"), ((0, 0), (1, 0)))
        self.assertEqual(read_drawing("oo\n\n"), ((0, 1), (1, 1)))
        self.assertEqual(read_drawing("oo\n\n\n"), ((0, 2), (1, 2)))

    def test_newlines_ahead(self):
        self.assertEqual(read_drawing("\n\noo\n"), ((0, 0), (1, 0)))

    def test_unlike_lines(self):
        self.assertEqual(read_drawing("....o\no\n\n.o"), ((0, 2), (1, 0), (4, 3)))

    def test_how_many(self):
        self.assertEqual(len(read_drawing("ooooo\nooooo")), 10)
        self.refused(read_drawing, "", 0, 0)
        self.refused(read_drawing, "\n", 1, 0)
        self.refused(read_drawing, "\n\n", 2, 0)
        self.refused(read_drawing, "o", 1, 0)
        self.refused(read_drawing, "o\n", 1, 0)
        self.refused(read_drawing, "...\n.o.\n...\n\n", 4, 0)
        self.refused(read_drawing, "ooooo\nooooo\no", 3, 0)

    def test_other_signs(self):
        self.refused(read_drawing, "x", 0, 0)
        self.refused(read_drawing, "oo\no.O", 1, 2)
        self.refused(read_drawing, "oo x\nx", 0, 2)
        self.refused(read_drawing, "\n\n 0", 2, 0)
        # A sign comes ahead of how many there are.
        self.refused(read_drawing, "ooooooooooo\n.,", 1, 1)


class PlaceTexts(Texts):
    def test_written_and_read(self):
        for row in shuffled_rows(10):
            self.assertEqual(read_places(place_line(row)), row)

    def test_write(self):
        self.assertEqual(place_line(row=((HUGE, -HUGE), (0, -1))), f"({HUGE},-{HUGE}) (0,-1)")
        self.assertEqual(read_places(text=f"({HUGE},-{HUGE}) (0,-1)"), ((HUGE, -HUGE), (0, -1)))

    def test_one_field(self):
        self.refused(read_places, "", 0, 0)
        self.refused(read_places, "(0,0)", 0, 1)
        self.refused(read_places, "(0,0", 0, 0)

    def test_empty_fields(self):
        self.refused(read_places, " ", 0, 0)
        self.refused(read_places, " (0,0) (1,0)", 0, 0)
        self.refused(read_places, "(0,0)  (1,0)", 0, 1)
        self.refused(read_places, "(0,0) (1,0) ", 0, 2)

    def test_integers_as_by_str(self):
        for word in ("00", "01", "-0", "+1", "-01", "--1", "", "-", "+", "1_0", "a", "1.0", "0x1", "(1)", "1-"):
            self.refused(read_places, f"(5,5) ({word},1)", 0, 1)
            self.refused(read_places, f"(5,5) (1,{word})", 0, 1)
        self.assertEqual(read_places("(10,-10) (0,100)"), ((10, -10), (0, 100)))

    def test_brackets_and_commas(self):
        wrong = ("0,0", "(0,0", "(0,00", "00,0)", "(0,0]", "[0,0)", "0,0)", "(0)", "(0,0,0)", "((0,0))", "[0,0]", "(0;0)", "()", "(", ")", "(,)", ",")
        for field in wrong:
            self.refused(read_places, f"(5,5) {field} (6,6)", 0, 1)
        self.refused(read_places, "(0, 0) (1,0)", 0, 0)
        self.refused(read_places, "(0,0)\n(1,0)", 0, 0)
        self.refused(read_places, "(0,0) (1,0)\n", 0, 1)

    def test_a_place_twice(self):
        self.refused(read_places, "(0,0) (1,0) (0,0) x", 0, 2)
        self.refused(read_places, "(0,0) (0,0)", 0, 1)

    def test_ten_and_eleven(self):
        line = place_line(TEN)
        self.assertEqual(read_places(line), TEN)
        self.refused(read_places, line + " (5,6)", 0, 10)
        self.refused(read_places, line + " (0,0)", 0, 10)
        self.refused(read_places, line + " x y", 0, 10)
        self.refused(read_places, line + " ", 0, 10)
        self.refused(read_places, line.replace("(9,81)", "(0,0)") + " (5,6)", 0, 9)


if __name__ == "__main__":
    unittest.main()
