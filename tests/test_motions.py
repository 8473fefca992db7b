"""[14], [15] and [16]: turns, motions, matching, and the consequences behind [16]."""

import random
import unittest

from compassless.matching import motion_of
from compassless.motions import back, behind, carried, carried_row, moved
from compassless.turns import cone_turn, turned
from tests.samples import BAR, ELL, HUGE, MOTIONS, SAMPLES, SQUARE, shuffled_rows

PLACES = [(0, 0), (1, 0), (2, 5), (-3, 4), (-1, -1), (7, -7), (HUGE, -HUGE), (-HUGE, -HUGE)]


def in_cone(pair):
    return pair[0] > 0 and -pair[0] < pair[1] <= pair[0]


class Turns(unittest.TestCase):
    def test_four_turns(self):
        for x, y in PLACES:
            self.assertEqual(turned(0, (x, y)), (x, y))
            self.assertEqual(turned(1, (x, y)), (-y, x))
            self.assertEqual(turned(2, (x, y)), (-x, -y))
            self.assertEqual(turned(3, (x, y)), (y, -x))

    def test_turns_add_up(self):
        for place in PLACES:
            for turn in range(4):
                for other in range(4):
                    self.assertEqual(turned(turn, turned(other, place)), turned((turn + other) % 4, place))

    def test_cone_on_axes_and_diagonals(self):
        for size in (1, 2, HUGE):
            self.assertEqual([cone_turn((size, 0)), cone_turn((0, -size))], [0, 1])
            self.assertEqual([cone_turn((-size, 0)), cone_turn((0, size))], [2, 3])
            self.assertEqual([cone_turn((size, size)), cone_turn((size, -size))], [0, 1])
            self.assertEqual([cone_turn((-size, -size)), cone_turn((-size, size))], [2, 3])

    def test_just_one_turn_into_the_cone(self):
        for x in range(-6, 7):
            for y in range(-6, 7):
                if (x, y) != (0, 0):
                    turns = [turn for turn in range(4) if in_cone(turned(turn, (x, y)))]
                    self.assertEqual([cone_turn((x, y))], turns)


class Motions(unittest.TestCase):
    def test_moved(self):
        for turn, a, b in MOTIONS:
            for place in PLACES:
                x, y = turned(turn, place)
                self.assertEqual(moved((turn, a, b), place), (x + a, y + b))

    def test_behind(self):
        for motion in MOTIONS:
            for other in MOTIONS:
                both = behind(motion, other)
                for place in PLACES:
                    self.assertEqual(moved(both, place), moved(motion, moved(other, place)))

    def test_back(self):
        for motion in MOTIONS:
            self.assertEqual(behind(back(motion), motion), (0, 0, 0))
            self.assertEqual(behind(motion, back(motion)), (0, 0, 0))
            self.assertEqual(back(back(motion)), motion)

    def test_by_name(self):
        self.assertEqual(moved(place=(2, 5), motion=(1, 3, 0)), (-2, 2))
        self.assertEqual(behind(other=(0, 2, 5), motion=(1, 3, 0)), (1, -2, 2))
        self.assertEqual(carried(standing=BAR, motion=(2, 0, 0)), ((-2, 0), (-1, 0), (0, 0)))
        self.assertEqual(carried_row(row=BAR, motion=(2, 0, 0)), ((0, 0), (-1, 0), (-2, 0)))

    def test_carried(self):
        for motion in MOTIONS:
            for row in shuffled_rows(1):
                goals = tuple(moved(motion, place) for place in row)
                self.assertEqual(carried_row(motion, row), goals)
                self.assertEqual(carried(motion, tuple(sorted(row))), tuple(sorted(goals)))


class Matching(unittest.TestCase):
    def test_undoes_carried_row(self):
        for motion in MOTIONS:
            for row in shuffled_rows(2):
                self.assertEqual(motion_of(row, carried_row(motion, row)), motion)

    def test_unlike_lengths(self):
        for many in range(2, 4):
            self.assertIsNone(motion_of(SQUARE, SQUARE[:many]))
            self.assertIsNone(motion_of(SQUARE[:many], SQUARE))

    def test_no_motion(self):
        self.assertIsNone(motion_of(((0, 0), (1, 0)), ((0, 0), (2, 0))))
        self.assertIsNone(motion_of(((0, 0), (1, 0)), ((0, 0), (1, 1))))
        # A mirror is no motion.
        self.assertIsNone(motion_of(((0, 0), (1, 0), (1, 2)), ((0, 0), (0, 1), (2, 1))))
        self.assertIsNone(motion_of(ELL, BAR))

    def test_sequence_counts(self):
        rng = random.Random(3)
        for standing in SAMPLES:
            row = tuple(rng.sample(standing, len(standing)))
            found = motion_of(standing, row)
            if found is not None:
                self.assertEqual(carried_row(found, standing), row)
            else:
                for turn in range(4):
                    x, y = turned(turn, standing[0])
                    motion = (turn, row[0][0] - x, row[0][1] - y)
                    self.assertNotEqual(carried_row(motion, standing), row)


if __name__ == "__main__":
    unittest.main()
