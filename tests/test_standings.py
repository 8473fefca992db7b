"""[17]: standings, rows and their box."""

import random
import unittest

from compassless.errors import InvalidPaper, NotUsable
from compassless.kinds import is_row
from compassless.standings import box_of, lets_row, side_of, standing_by, standing_of
from tests.samples import BAD_PLACES, BAD_ROWS, ELEVEN, HUGE, SAMPLES, TEN, shuffled_rows


class Standings(unittest.TestCase):
    def refused(self, at, *places):
        with self.assertRaises(NotUsable) as caught:
            standing_of(*places)
        self.assertEqual(vars(caught.exception), {"word": "places", "at": at}, places)

    def test_standing_of(self):
        for row in shuffled_rows(4):
            self.assertEqual(standing_of(*row), tuple(sorted(row)))
            self.assertEqual(standing_by(row), tuple(sorted(row)))
            self.assertEqual(standing_by(row=row), tuple(sorted(row)))

    def test_how_many(self):
        self.refused(-1)
        self.refused(-1, (0, 0))
        self.refused(-1, *ELEVEN)
        self.assertEqual(standing_of(*TEN), TEN)
        self.assertEqual(standing_of(*TEN[:2]), TEN[:2])

    def test_first_wrong_place(self):
        for wrong in BAD_PLACES:
            self.refused(0, wrong)
            self.refused(1, (0, 0), wrong)
            self.refused(2, (0, 0), (5, 5), wrong, wrong)
            self.refused(11, *ELEVEN, wrong)

    def test_a_place_twice(self):
        self.refused(1, (0, 0), (0, 0))
        self.refused(2, (0, 0), (1, 0), (0, 0), (1, 0))
        self.refused(11, *ELEVEN, (0, 0))
        self.refused(1, (0, 0), (False, 0), (0, 0))

    def test_box_and_side(self):
        for standing in SAMPLES:
            low, top = box_of(standing)
            xs = [x for x, _ in standing]
            ys = [y for _, y in standing]
            self.assertEqual((low, top), ((min(xs), min(ys)), (max(xs), max(ys))))
            self.assertEqual(side_of(standing), max(top[0] - low[0], top[1] - low[1]))
        self.assertEqual(side_of(((0, 0), (0, 7))), 7)
        self.assertEqual(side_of(((-HUGE, 0), (HUGE, 5))), 2 * HUGE)
        self.assertEqual(box_of(((-1, 3), (2, -5))), ((-1, -5), (2, 3)))


class LetsRow(unittest.TestCase):
    def refused(self, thing, word, at):
        with self.assertRaises(InvalidPaper) as caught:
            lets_row(thing)
        self.assertEqual(vars(caught.exception), {"word": word, "at": at}, thing)

    def test_how_many_places(self):
        for row in shuffled_rows(5):
            self.assertEqual(lets_row(row), len(row))
            self.assertEqual(lets_row(thing=row), len(row))
        self.assertEqual(lets_row(((10**59, 0), (0, -(10**59)))), 2)

    def test_shape(self):
        for thing in (None, True, 0, "oo", [], [(0, 0), (1, 0)]):
            self.refused(thing, "shape", -1)

    def test_many(self):
        for thing in ((), ((0, 0),), (None,), ELEVEN, (None,) * 11):
            self.refused(thing, "many", -1)

    def test_elements(self):
        for wrong in BAD_PLACES:
            self.refused((wrong, wrong), "place", 0)
            self.refused(((0, 0), (1, 0), wrong, (0, 0)), "place", 2)
            self.refused(((0, 0), (0, 0), wrong), "twice", 1)
            self.refused(((7, 7), wrong, (7, 7)), "place", 1)
        self.refused(TEN[:9] + TEN[:1], "twice", 9)

    def test_accepts_exactly_the_rows(self):
        rng = random.Random(6)
        bits = [(0, 0), (1, 0), (2, 1), (True, 0), [0, 0], (0,), None]
        things = [tuple(rng.choice(bits) for _ in range(rng.randint(0, 4))) for _ in range(500)]
        for thing in things + BAD_ROWS + shuffled_rows(9):
            try:
                found = lets_row(thing)
            except InvalidPaper:
                self.assertFalse(is_row(thing), thing)
            else:
                self.assertTrue(is_row(thing), thing)
                self.assertEqual(found, len(thing))


if __name__ == "__main__":
    unittest.main()
