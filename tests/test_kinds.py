"""[13]: what kind a value is."""

import unittest

from compassless.floorclasses import Motion
from compassless.kinds import is_motion, is_place, is_row, is_standing, is_step
from tests.samples import (
    BAD_MOTIONS,
    BAD_PLACES,
    BAD_ROWS,
    BAD_STANDINGS,
    ELEVEN,
    HUGE,
    MOTIONS,
    SAMPLES,
    STEPS,
    TEN,
    shuffled_rows,
)


class Kinds(unittest.TestCase):
    def all_are(self, kind, things, due):
        for thing in things:
            self.assertIs(kind(thing), due, repr(thing))
            self.assertIs(kind(thing=thing), due, repr(thing))

    def test_places(self):
        self.all_are(is_place, [(0, 0), (3, -1), (HUGE, -HUGE), (-(10**59), 10**59)], True)
        self.all_are(is_place, BAD_PLACES + [Motion(0, 0, 0)], False)

    def test_steps(self):
        self.all_are(is_step, STEPS, True)
        wrong = [(0, 0), (1, 1), (-1, 1), (2, 0), (0, -2), (True, 0), (0, True), (1, False), (False, 1)]
        self.all_are(is_step, BAD_PLACES + wrong, False)

    def test_motions(self):
        self.all_are(is_motion, MOTIONS, True)
        self.all_are(is_motion, BAD_MOTIONS + [(3, 0, True), (False, 0, 0), Motion(1, 2, 3)], False)

    def test_rows(self):
        self.all_are(is_row, shuffled_rows(7) + [TEN, ((1, 0), (0, 0)), ((HUGE, 0), (-HUGE, 0))], True)
        self.all_are(is_row, BAD_ROWS, False)

    def test_standings(self):
        self.all_are(is_standing, SAMPLES + [TEN, ((-HUGE, HUGE), (HUGE, -HUGE))], True)
        self.all_are(is_standing, BAD_STANDINGS, False)
        unsorted = [row for row in shuffled_rows(8) if list(row) != sorted(row)]
        self.assertGreater(len(unsorted), 20)
        self.all_are(is_standing, unsorted, False)

    def test_two_to_ten(self):
        for many in range(12):
            self.assertIs(is_row(ELEVEN[:many]), 2 <= many <= 10)
            self.assertIs(is_standing(ELEVEN[:many]), 2 <= many <= 10)

    def test_deep_and_long_values(self):
        deep = ()
        for _ in range(29):
            deep = (deep,)
        for kind in (is_place, is_step, is_motion, is_row, is_standing):
            self.all_are(kind, [deep, [deep], (deep, deep), tuple(range(5000)), "x" * 4000, 10**59], False)


if __name__ == "__main__":
    unittest.main()
