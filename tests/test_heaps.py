"""[81] and [82]: heaped standings, inward steps."""

import random
import unittest

from compassless.errors import NotUsable
from compassless.floorclasses import Motion
from compassless.folds import class_of, fold_of
from compassless.heaps import fold_about, heap_form, heap_of, heaped_by, is_heaped
from compassless.inwards import inward
from compassless.roads import distance
from compassless.turns import cone_turn, turned
from tests.samples import BAD_PLACES, HUGE, SAMPLES, STEPS, spread_out

CORNER = (((0, 0), 1), ((0, 1), 1), ((1, 0), 1))
HEAPED = (((0, 0), 1), ((1, 0), 2), ((2, 0), 1))
ALONE = (((5, -3), 2),)
NO_HEAPED = [None, True, 0, "", (), [], list(CORNER), (((0, 0), 1),), (((0, 0), 11),), CORNER[::-1], ((0, 0), (1, 0))]
NO_HEAPED += [(((0, 0), 2), ((1, 0), 2)), (((0, 0), 1), ((0, 0), 2)), (((0, 0), 0), ((1, 0), 2)), (((0, 0), -1), ((1, 0), 3))]
NO_HEAPED += [(((0, 0), True), ((1, 0), 1)), (((0, 0), 1), [(1, 0), 1]), (((0, 0), 1), ((True, 0), 1)), (((0, 0), 1, 1),)]
NO_HEAPED += [(((0, 0), 5), ((1, 0), 1), ((2, 0), 5)), (((0, 0), 9), ((0, 1), 1), ((0, 2), 1)), (((0, 0),), ((1, 0),))]
NO_HEAPED += [(((0, 0), 1), ((1, 0), None)), tuple(((k, 0), 1) for k in range(11)), Motion(0, 0, 0), (None, None)]
NO_HEAPED += [(((0, 0), 1), ((0, 1), 1), ((0, 1), 1)), (([0, 0], 1), ((1, 0), 1)), (((0, 0), "1"), ((0, 1), 1))]


def draw_heaped(rng, many):
    """So many robots, mostly some of them on one place."""
    places = set()
    heap = rng.choice([0, 0, many, rng.randint(2, many)])
    while len(places) < (many if heap == 0 else many - heap + 1):
        places.add((rng.randint(-4, 4), rng.randint(-4, 4)))
    order = rng.sample(sorted(places), len(places))
    return order + [order[-1]] * (heap - 1 if heap else 0)


class Heaps(unittest.TestCase):
    def test_word_by_word(self):
        rng = random.Random(81)
        heaps = set()
        for many in range(2, 11):
            for _ in range(25):
                places = draw_heaped(rng, many)
                rng.shuffle(places)
                heaped = heaped_by(*places)
                counts = {place: places.count(place) for place in places}
                self.assertEqual(heaped, tuple(sorted(counts.items())))
                self.assertIs(is_heaped(heaped), True)
                self.assertIs(is_heaped(thing=heaped), True)
                heap = next((place for place in counts if counts[place] > 1), None)
                self.assertEqual(heap_of(heaped), heap)
                self.assertEqual(heap_of(heaped=heaped), heap)
                heaps.add((heap is None, len(counts) == 1))
        self.assertEqual(heaps, {(True, False), (False, False), (False, True)})

    def test_standings(self):
        for standing in SAMPLES:
            heaped = tuple((place, 1) for place in standing)
            self.assertEqual((heaped_by(*standing[::-1]), heap_of(heaped)), (heaped, None))

    def test_edges(self):
        self.assertEqual(heaped_by((1, 0), (0, 0), (2, 0), (1, 0)), HEAPED)
        self.assertEqual(heaped_by(*[(5, -3)] * 2), ALONE)
        self.assertEqual(heaped_by(*[(HUGE, -HUGE)] * 10), (((HUGE, -HUGE), 10),))
        self.assertEqual([heap_of(heaped) for heaped in (CORNER, HEAPED, ALONE)], [None, (1, 0), (5, -3)])

    def test_kinds(self):
        for thing in NO_HEAPED:
            self.assertIs(is_heaped(thing), False, thing)
            for call in (heap_of, lambda heaped: fold_about(heaped, None), lambda heaped: heap_form(heaped, None)):
                self.refused("heaped", -1, call, thing)

    def test_wrong_places(self):
        for wrong in BAD_PLACES:
            self.refused("places", 0, heaped_by, wrong, wrong, (0, 0))
            self.refused("places", 2, heaped_by, (0, 0), (0, 0), wrong, wrong)
            self.refused("places", 11, heaped_by, *[(0, 0)] * 11, wrong)
            for call in (fold_about, heap_form):
                self.refused("place", -1, call, HEAPED, wrong)
        for wrong in ((), ((0, 0),), ((0, 0),) * 11, ((0, 0), (1, 0)) * 2, tuple((k, 0) for k in range(11))):
            self.refused("places", -1, heaped_by, *wrong)

    def test_turned_about_a_place(self):
        rng = random.Random(82)
        folds = {}
        for standing in SAMPLES + [((0, 1), (1, 0), (1, 2), (2, 1))]:
            heaped = heaped_by(*standing)
            for place in [rng.choice(standing), (1, 1), (rng.randint(-3, 3), rng.randint(-3, 3))]:
                fold = self.check_forms(heaped, place)
                folds[fold] = folds.get(fold, 0) + 1
            if class_of(standing)[2] == "place":
                middle = (sum(x for x, _ in standing) // len(standing), sum(y for _, y in standing) // len(standing))
                self.assertEqual(self.check_forms(heaped, middle), fold_of(standing))
        self.assertEqual(set(folds), {1, 2, 4})

    def check_forms(self, heaped, place):
        forms = []
        for turn in range(4):
            forms.append(tuple(sorted((turned(turn, (x - place[0], y - place[1])), many) for (x, y), many in heaped)))
        fold = 4 if forms[0] == forms[1] else 2 if forms[0] == forms[2] else 1
        self.assertEqual(fold_about(heaped, place), fold)
        self.assertEqual(fold_about(place=place, heaped=heaped), fold)
        self.assertEqual(heap_form(heaped, place), min(forms))
        self.assertEqual(heap_form(place=place, heaped=heaped), min(forms))
        return fold

    def test_counts_tell(self):
        # Three on a line keep the half turn about the middle one, but not with a heap at an end.
        line = ((0, 0), (1, 0), (2, 0))
        self.assertEqual(fold_about(heaped_by(*line), (1, 0)), 2)
        self.assertEqual(fold_about(HEAPED, (1, 0)), 2)
        self.assertEqual(fold_about(heaped_by(*line, (0, 0)), (1, 0)), 1)
        self.assertEqual(heap_form(heaped_by(*line, (0, 0)), (1, 0)), (((-1, 0), 1), ((0, 0), 1), ((1, 0), 2)))
        self.assertEqual((fold_about(ALONE, (5, -3)), heap_form(ALONE, (5, -3))), (4, (((0, 0), 2),)))
        self.assertEqual((fold_about(ALONE, (5, 0)), heap_form(ALONE, (5, 0))), (1, (((-3, 0), 2),)))

    def refused(self, word, at, call, *given):
        with self.assertRaises(NotUsable) as caught:
            call(*given)
        self.assertEqual(vars(caught.exception), {"word": word, "at": at}, given)


class Inwards(unittest.TestCase):
    def test_word_by_word(self):
        for x in range(-4, 5):
            for y in range(-4, 5):
                place, other = (x + 7, y - 2), (7, -2)
                if (x, y) != (0, 0):
                    step = turned((4 - cone_turn((x, y))) % 4, (-1, 0))
                    self.assertEqual(inward(place, other), step)
                    self.assertEqual(inward(other=other, place=place), step)
                    self.assertIn(step, STEPS)
                    goal = (place[0] + step[0], place[1] + step[1])
                    self.assertEqual(distance(goal, other), distance(place, other) - 1)

    def test_diagonals_and_axes(self):
        due = {(3, 3): (-1, 0), (-3, 3): (0, -1), (-3, -3): (1, 0), (3, -3): (0, 1)}
        due.update({(5, 0): (-1, 0), (0, 5): (0, -1), (-5, 0): (1, 0), (0, -5): (0, 1), (HUGE, HUGE): (-1, 0)})
        for place, step in due.items():
            self.assertEqual(inward(place, (0, 0)), step)

    def test_wrong_inputs(self):
        for wrong in BAD_PLACES:
            self.refused("place", wrong, None)
            self.refused("other", (1, 2), wrong)
        self.refused("other", (1, 2), (1, 2))
        self.refused("other", (1, 0), (True, 0))

    def refused(self, word, *given):
        with self.assertRaises(NotUsable) as caught:
            inward(*given)
        self.assertEqual(vars(caught.exception), {"word": word, "at": -1}, given)


class Large(unittest.TestCase):
    def test_spread(self):
        for standing in SAMPLES[:20]:
            wide = spread_out(standing, 10**20)
            self.assertEqual(fold_about(heaped_by(*wide), wide[0]), fold_about(heaped_by(*standing), standing[0]))


if __name__ == "__main__":
    unittest.main()
