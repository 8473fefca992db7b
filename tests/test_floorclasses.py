"""[20]: Motion, and the consequences behind it."""

import unittest

from compassless.errors import NotUsable
from compassless.floorclasses import Motion
from compassless.motions import back, behind, carried, moved
from tests.samples import BAD_INTEGERS, BAD_PLACES, BAD_STANDINGS, BAD_TURNS, BAR, MOTIONS, SAMPLES


class Motions(unittest.TestCase):
    def refused(self, word, call, *given, **named):
        with self.assertRaises(NotUsable) as caught:
            call(*given, **named)
        self.assertEqual(vars(caught.exception), {"word": word, "at": -1}, (given, named))

    def test_what_the_functions_tell(self):
        for triple in MOTIONS:
            motion = Motion(*triple)
            self.assertEqual(motion.told(), triple)
            self.assertIs(type(motion.told()), tuple)
            self.assertEqual(motion.back().told(), back(triple))
            self.assertIsInstance(motion.back(), Motion)
            for place in ((0, 0), (2, 5), (-7, 1)):
                self.assertEqual(motion.at(place), moved(triple, place))
                self.assertEqual(motion.at(place=place), moved(triple, place))
            for standing in SAMPLES[:40]:
                self.assertEqual(motion.of(standing), carried(triple, standing))
                self.assertEqual(motion.of(standing=standing), carried(triple, standing))

    def test_times(self):
        for one in MOTIONS:
            for other in MOTIONS:
                both = Motion(*one) * Motion(*other)
                self.assertIsInstance(both, Motion)
                self.assertEqual(both.told(), behind(one, other))
                self.assertEqual(both.at((2, 5)), Motion(*one).at(Motion(*other).at((2, 5))))

    def test_equal(self):
        for k, one in enumerate(MOTIONS):
            for j, other in enumerate(MOTIONS):
                self.assertIs(Motion(*one) == Motion(*other), k == j)
                self.assertIs(Motion(*one) != Motion(*other), k != j)
        for thing in ((1, 3, 0), [1, 3, 0], None, True, 1, "1 3 0", Motion):
            self.assertIs(Motion(1, 3, 0) == thing, False)

    def test_never_changes(self):
        one, other = Motion(1, 3, 0), Motion(0, 2, 5)
        for _ in range(2):
            self.assertEqual((one * other).told(), (1, -2, 2))
            self.assertEqual(one.back().told(), (3, 0, 3))
            self.assertEqual((one.told(), other.told()), ((1, 3, 0), (0, 2, 5)))

    def test_wrong_times(self):
        for thing in [(1, 3, 0), [1, 3, 0], None, True, 2, "2", ((0, 0), (1, 0)), Motion]:
            self.refused("other", lambda value: Motion(1, 3, 0) * value, thing)

    def test_wrong_arguments(self):
        for turn in BAD_TURNS:
            self.refused("turn", Motion, turn, None, None)
            self.refused("turn", Motion, b=0, a=0, turn=turn)
        for wrong in BAD_INTEGERS:
            self.refused("a", Motion, 0, wrong, wrong)
            self.refused("a", Motion, turn=0, b=0, a=wrong)
            self.refused("b", Motion, 0, 0, wrong)
            self.refused("b", Motion, turn=0, a=0, b=wrong)
        self.assertEqual(Motion(b=2, turn=3, a=1).told(), (3, 1, 2))

    def test_wrong_places_and_standings(self):
        motion = Motion(1, 3, 0)
        for wrong in BAD_PLACES:
            self.refused("place", motion.at, wrong)
            self.refused("place", motion.at, place=wrong)
        for wrong in BAD_STANDINGS:
            self.refused("standing", motion.of, wrong)
            self.refused("standing", motion.of, standing=wrong)
        self.assertEqual(motion.of(BAR), ((3, 0), (3, 1), (3, 2)))


if __name__ == "__main__":
    unittest.main()
