"""[37]: roads; of [44] and (G4) what speaks of these."""

import random
import unittest

from compassless.errors import NotUsable
from compassless.roads import distance, last_on, other_road, road
from tests.samples import BAD_PLACES, ELL, HUGE, STEPS

ENDS = [(0, 0), (1, 0), (0, 1), (-1, 0), (0, -1), (3, 2), (-3, 2), (3, -2), (-3, -2), (5, 0), (0, -6), (4, 4)]


def walk(place, goal, axes):
    """The places from the first one to the other one, along the axes in this sequence."""
    found = [place]
    for axis in axes:
        while found[-1][axis] != goal[axis]:
            step = 1 if goal[axis] > found[-1][axis] else -1
            here = list(found[-1])
            here[axis] += step
            found.append(tuple(here))
    return tuple(found)


class Roads(unittest.TestCase):
    def test_both_roads(self):
        for place in ENDS:
            for goal in ENDS:
                first, then = ((0, 1), (1, 0)) if place[0] <= goal[0] else ((1, 0), (0, 1))
                self.assertEqual(road(place, goal), walk(place, goal, first))
                self.assertEqual(other_road(place, goal), walk(place, goal, then))
                self.assertEqual(road(other=goal, place=place), walk(place, goal, first))
                self.assertEqual(other_road(other=goal, place=place), walk(place, goal, then))

    def test_consequences(self):
        for place in ENDS:
            for goal in ENDS:
                for way in (road(place, goal), other_road(place, goal)):
                    self.assertEqual(len(way), distance(place, goal) + 1)
                    self.assertEqual((way[0], way[-1]), (place, goal))
                    for here, there in zip(way, way[1:]):
                        self.assertIn((there[0] - here[0], there[1] - here[1]), STEPS)
                way = road(place, goal)
                self.assertGreaterEqual(min(way), min(place, goal))
                self.assertEqual(way[::-1], road(goal, place))
                for here, there in zip(way, way[1:]):
                    if here[1] != there[1]:
                        self.assertEqual(here[0], max(place[0], goal[0]))

    def test_to_itself(self):
        for place in ENDS + [(HUGE, -HUGE)]:
            self.assertEqual((road(place, place), other_road(place, place)), ((place,), (place,)))
            self.assertEqual(distance(place, place), 0)

    def test_along_one_axis(self):
        self.assertEqual(road((2, 5), (0, 5)), ((2, 5), (1, 5), (0, 5)))
        self.assertEqual(other_road((2, 5), (0, 5)), ((2, 5), (1, 5), (0, 5)))
        self.assertEqual(road((0, 1), (0, -1)), ((0, 1), (0, 0), (0, -1)))
        self.assertEqual(other_road((0, 1), (0, -1)), ((0, 1), (0, 0), (0, -1)))

    def test_two_thousand(self):
        way = road((-HUGE, 0), (1000 - HUGE, -1000))
        self.assertEqual((len(way), way[1000], way[-1]), (2001, (1000 - HUGE, 0), (1000 - HUGE, -1000)))
        way = other_road((0, 0), (2000, 0))
        self.assertEqual((len(way), way[1234]), (2001, (1234, 0)))

    def test_distance(self):
        for x, y in ENDS:
            for v, w in ENDS:
                self.assertEqual(distance((x, y), (v, w)), abs(x - v) + abs(y - w))
                self.assertEqual(distance(other=(v, w), place=(x, y)), abs(x - v) + abs(y - w))
        self.assertEqual(distance((HUGE, -HUGE), (-HUGE, HUGE)), 4 * HUGE)

    def test_last_on(self):
        rng = random.Random(37)
        for _ in range(500):
            way = tuple((rng.randint(0, 3), rng.randint(0, 3)) for _ in range(rng.randint(0, 6)))
            places = tuple((rng.randint(0, 3), rng.randint(0, 3)) for _ in range(rng.randint(0, 4)))
            hits = [k for k, place in enumerate(way) if place in places]
            self.assertEqual(last_on(way, places), max(hits) if hits else None)
            self.assertEqual(last_on(places=places, way=way), max(hits) if hits else None)

    def test_last_on_edges(self):
        self.assertIsNone(last_on((), ()))
        self.assertIsNone(last_on((), ELL))
        self.assertIsNone(last_on(ELL, ()))
        self.assertIsNone(last_on(ELL, ((5, 5), (5, 5))))
        self.assertEqual(last_on(((0, 0), (1, 1), (0, 0), (2, 2)), ((0, 0), (0, 0))), 2)
        self.assertEqual(last_on(((0, 0), (0, 0)), ((9, 9), (0, 0))), 1)
        way = road((0, 0), (2000, 0))
        self.assertEqual(last_on(way, way), 2000)
        self.assertEqual(last_on(way, way[:1]), 0)

    def test_last_on_refuses(self):
        for wrong in BAD_PLACES + [((0, 0), None), [(0, 0)], ((0, 0), (True, 0)), ((0, 0), [1, 0])]:
            if wrong == () or wrong == ((0, 0), (0, 0)):
                continue
            for word, given in (("way", (wrong, wrong)), ("way", (wrong, ())), ("places", ((), wrong))):
                with self.assertRaises(NotUsable) as caught:
                    last_on(*given)
                self.assertEqual(vars(caught.exception), {"word": word, "at": -1}, given)


if __name__ == "__main__":
    unittest.main()
