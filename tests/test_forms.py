"""[24] and [25]: forms and views; of [28] and (G1) what speaks of these."""

import unittest

from compassless.folds import fold_of
from compassless.forms import alike, carrier_of, form_of, placer_of, shifted
from compassless.motions import carried, moved
from compassless.orbits import orbit_of
from compassless.turns import turned
from compassless.views import lookalikes, view_of
from tests.samples import BAR, ELL, LINE, MOTIONS, SAMPLES, SQUARE, TEE, WIDEST, ZIG


def shift(places):
    x = min(place[0] for place in places)
    y = min(place[1] for place in places)
    return tuple(sorted((place[0] - x, place[1] - y) for place in places))


def shapes(standing):
    """The four standings that come by a turn and then shifting."""
    return [shift([turned(turn, place) for place in standing]) for turn in range(4)]


class Forms(unittest.TestCase):
    def test_shifted_and_form(self):
        for standing in SAMPLES:
            self.assertEqual(shifted(standing), shift(standing))
            self.assertEqual(form_of(standing), min(shapes(standing)))
            self.assertEqual(form_of(form_of(standing)), form_of(standing))

    def test_the_widest(self):
        for standing in WIDEST:
            self.assertEqual(form_of(standing), min(shapes(standing)))
            for turn in range(4):
                goal = carried((turn, 0, 0), standing)
                self.assertEqual(carried(carrier_of(standing, goal), standing), goal)
            for place in standing:
                self.assertEqual(lookalikes(standing, place), orbit_of(standing, place))

    def test_placer(self):
        for standing in SAMPLES:
            placer = placer_of(standing)
            self.assertEqual(carried(placer, standing), form_of(standing))
            self.assertEqual(placer[0], shapes(standing).index(form_of(standing)))

    def test_as_many_turns_as_the_fold(self):
        for standing in SAMPLES:
            self.assertEqual(shapes(standing).count(form_of(standing)), fold_of(standing))

    def test_carried(self):
        for standing in SAMPLES:
            for motion in MOTIONS:
                goal = carried(motion, standing)
                self.assertEqual(form_of(goal), form_of(standing))
                self.assertIs(alike(standing, goal), True)
                found = carrier_of(standing, goal)
                self.assertEqual(carried(found, standing), goal)
                self.assertLessEqual(found[0], motion[0])
                if fold_of(standing) == 1:
                    self.assertEqual(found, motion)
                else:
                    self.assertLess(found[0], 4 // fold_of(standing))

    def test_least_turn(self):
        self.assertEqual(carrier_of(SQUARE, SQUARE), (0, 0, 0))
        self.assertEqual(carrier_of(BAR, BAR), (0, 0, 0))
        self.assertEqual(carrier_of(ELL, ((-1, 0), (0, 0), (0, 1))), (1, 0, 0))
        self.assertEqual(carrier_of(standing=ELL, other=((-1, 0), (0, -1), (0, 0))), (2, 0, 0))
        self.assertEqual(carrier_of(other=((0, -1), (0, 0), (1, 0)), standing=ELL), (3, 0, 0))

    def test_alike_exactly_if_carried(self):
        for standing in SAMPLES:
            for other in SAMPLES:
                found = carrier_of(standing, other)
                self.assertIs(alike(standing, other), found is not None)
                self.assertIs(alike(standing, other), form_of(standing) == form_of(other))
                if found is not None:
                    self.assertEqual(carried(found, standing), other)

    def test_unlike_numbers_of_places(self):
        for standing, other in ((BAR, LINE), (LINE, BAR), (SQUARE, ELL)):
            self.assertIs(alike(standing, other), False)
            self.assertIsNone(carrier_of(standing, other))

    def test_mirrors_are_not_alike(self):
        mirror = tuple(sorted((-x, y) for x, y in ZIG))
        self.assertIs(alike(ZIG, mirror), False)
        self.assertIs(alike(TEE, tuple(sorted((-x, y) for x, y in TEE))), True)


class Views(unittest.TestCase):
    def test_view(self):
        for standing in SAMPLES:
            for place in standing:
                for frame in range(4):
                    seen = [turned(frame, (x - place[0], y - place[1])) for x, y in standing]
                    view = view_of(standing, place, frame)
                    self.assertEqual(view, tuple(sorted(seen)))
                    self.assertIn((0, 0), view)
                    self.assertEqual(view_of(frame=frame, place=place, standing=standing), view)

    def test_lookalikes_are_the_orbit(self):
        for standing in SAMPLES:
            for place in standing:
                self.assertEqual(lookalikes(standing, place), orbit_of(standing, place))
                self.assertEqual(lookalikes(place=place, standing=standing), orbit_of(standing, place))

    def test_the_same_view_exactly_in_one_orbit(self):
        # (G1), by all views in all frames.
        for standing in SAMPLES:
            views = {place: {view_of(standing, place, frame) for frame in range(4)} for place in standing}
            for place in standing:
                for other in standing:
                    same = not views[place].isdisjoint(views[other])
                    self.assertIs(same, other in orbit_of(standing, place))

    def test_carried(self):
        for standing in SAMPLES[:60]:
            for motion in MOTIONS:
                goal = carried(motion, standing)
                for place in standing:
                    for frame in range(4):
                        seen = view_of(goal, moved(motion, place), (frame - motion[0]) % 4)
                        self.assertEqual(seen, view_of(standing, place, frame))


if __name__ == "__main__":
    unittest.main()
