"""[41] and [42]: fewest steps, and steering; of [44] and (G4) what speaks of these."""

import itertools
import random
import unittest

from compassless.errors import NotUsable
from compassless.fewest import fewest
from compassless.forms import alike
from compassless.leasts import least_partners, least_total
from compassless.motions import carried
from compassless.pushes import after_moves
from compassless.roads import last_on, road
from compassless.steering import next_move, steered
from compassless.tables import distance_table
from tests.samples import BAR, ELL, LINE, MOTIONS, SAMPLES, SQUARE, TEN, ZIG
from tests.test_tables import by_trying

PAIR = ((0, 0), (1, 0))
SMALL = [standing for standing in SAMPLES if len(standing) <= 6]


def draw(rng, many, size):
    """Any standing of so many places between 0 and size."""
    spots = list(itertools.product(range(size + 1), repeat=2))
    return tuple(sorted(rng.sample(spots, many)))


def by_all_motions(standing, figure):
    """The triple of fewest by all motions that bring the two boxes together."""
    best = None
    for turn in range(4):
        spun = carried((turn, 0, 0), figure)
        shifts = []
        for k in range(2):
            here, there = [place[k] for place in standing], [place[k] for place in spun]
            shifts.append(range(min(here) - max(there), max(here) - min(there) + 1))
        for a, b in itertools.product(*shifts):
            goals = tuple((x + a, y + b) for x, y in spun)
            total, partners = by_trying(distance_table(standing, goals))
            if best is None or (total, (turn, a, b)) < best[:2]:
                best = (total, (turn, a, b), partners)
    return best


class Fewest(unittest.TestCase):
    def test_beside_all_motions(self):
        rng = random.Random(41)
        for many, size, times in ((2, 4, 60), (3, 3, 40), (4, 3, 12), (5, 2, 3)):
            for _ in range(times):
                standing, figure = draw(rng, many, size), draw(rng, many, size)
                self.assertEqual(fewest(standing, figure), by_all_motions(standing, figure), (standing, figure))
                self.assertEqual(fewest(figure=figure, standing=standing), fewest(standing, figure))

    def test_what_it_tells_is_so(self):
        rng = random.Random(42)
        for standing in SMALL:
            figure = rng.choice([other for other in SMALL if len(other) == len(standing)])
            total, motion, partners = fewest(standing, figure)
            table = distance_table(standing, carried(motion, figure))
            self.assertEqual((least_total(table), least_partners(table)), (total, partners))
            turn, a, b = motion
            for k, m in itertools.product((-2, -1, 0, 1, 2), repeat=2):
                other = (turn, a + k, b + m)
                found = least_total(distance_table(standing, carried(other, figure)))
                self.assertGreaterEqual((found, other), (total, motion))

    def test_no_motion_changes_the_total(self):
        rng = random.Random(43)
        some = [standing for standing in SMALL if len(standing) <= 5]
        for standing in some:
            figure = rng.choice([other for other in some if len(other) == len(standing)])
            total = fewest(standing, figure)[0]
            one, two = (0, 4, -9), rng.choice([(1, 3, 0), (2, -5, 7), (3, -1, -2)])
            self.assertEqual(fewest(carried(two, standing), carried(one, figure))[0], total)
            self.assertEqual(fewest(carried(one, standing), carried(two, figure))[0], total)
            self.assertEqual(fewest(figure, standing)[0], total)
            self.assertEqual(total == 0, alike(standing, figure))

    def test_alike(self):
        self.assertEqual(fewest(BAR, BAR), (0, (0, 0, 0), (0, 1, 2)))
        self.assertEqual(fewest(SQUARE, SQUARE), (0, (0, 0, 0), (0, 1, 2, 3)))
        self.assertEqual(fewest(BAR, carried((1, 5, 5), BAR)), (0, (1, 7, -5), (0, 1, 2)))

    def test_the_least_of_many_motions(self):
        # The pair may stand in the middle of the long pair: from 0 to 2 to the east.
        self.assertEqual(fewest(((0, 0), (3, 0)), PAIR), (2, (0, 0, 0), (0, 1)))
        self.assertEqual(fewest(((0, 0), (0, 3)), PAIR), (2, (1, 0, 0), (0, 1)))
        self.assertEqual(fewest(PAIR, ((0, 0), (9, 0)))[:2], (8, (0, -8, 0)))

    def test_six_robots(self):
        six = TEN[:6]
        self.assertEqual(fewest(six, six), (0, (0, 0, 0), (0, 1, 2, 3, 4, 5)))
        wide = ((0, 0), (0, 200), (100, 3), (199, 7), (200, 0), (200, 200))
        far = carried((2, 10**9, -(10**9)), wide)
        total, motion, _ = fewest(far, wide)
        self.assertEqual((total, motion), (0, (2, 10**9, -(10**9))))

    def test_wrong_inputs(self):
        for wrong in (TEN[:7], TEN, None, [(0, 0), (1, 0)], ((1, 0), (0, 0)), ((0, 0), (True, 0))):
            for given in ((wrong, wrong), (wrong, None)):
                self.refused("standing", fewest, *given)
        for wrong in (ELL, SQUARE + ((5, 5),), None, [*ZIG], ZIG[::-1]):
            self.refused("figure", fewest, ZIG, wrong)

    def refused(self, word, call, *given):
        with self.assertRaises(NotUsable) as caught:
            call(*given)
        self.assertEqual(vars(caught.exception), {"word": word, "at": -1}, given)


def expected_move(standing, goals):
    """The next move, word by word as [42] tells it."""
    if standing == goals:
        return None
    partners = by_trying(distance_table(standing, goals))[1]
    t = min(goal for goal in goals if goal not in standing)
    p = next(standing[i] for i in range(len(standing)) if goals[partners[i]] == t)
    way = road(p, t)
    k = last_on(way, standing)
    return way[k], (way[k + 1][0] - way[k][0], way[k + 1][1] - way[k][1])


class Steering(unittest.TestCase):
    def test_next_move(self):
        rng = random.Random(44)
        for many, size, times in ((2, 3, 80), (3, 2, 80), (4, 3, 60), (6, 2, 20), (7, 3, 4), (8, 3, 1)):
            for _ in range(times):
                standing, goals = draw(rng, many, size), draw(rng, many, size)
                self.assertEqual(next_move(standing, goals), expected_move(standing, goals), (standing, goals))
                self.assertEqual(next_move(goals=goals, standing=standing), next_move(standing, goals))

    def test_a_step_is_one_of_the_total(self):
        rng = random.Random(45)
        for standing in [s for s in SAMPLES if len(s) <= 8]:
            goals = rng.choice([other for other in SAMPLES if len(other) == len(standing)])
            moves = steered(standing, goals)
            self.assertEqual(steered(goals=goals, standing=standing), moves)
            total = least_total(distance_table(standing, goals))
            self.assertEqual(len(moves), total)
            for k, move in enumerate(moves):
                self.assertEqual(next_move(standing, goals), move)
                # No Blocked is raised, so nobody stands where it goes.
                standing = after_moves(standing, (move,))
                self.assertEqual(least_total(distance_table(standing, goals)), total - k - 1)
            self.assertEqual(standing, goals)

    def test_both_the_same(self):
        for standing in [s for s in SAMPLES if len(s) <= 8]:
            self.assertIsNone(next_move(standing, standing))
            self.assertEqual(steered(standing, standing), ())

    def test_in_line(self):
        self.assertEqual(next_move(LINE, carried((0, 1, 0), LINE)), ((3, 0), (1, 0)))
        due = (((0, 0), (-1, 0)), ((1, 0), (-1, 0)), ((2, 0), (-1, 0)), ((3, 0), (-1, 0)))
        self.assertEqual(steered(LINE, carried((0, -1, 0), LINE)), due)

    def test_eight_robots_and_two_thousand_steps(self):
        eight = TEN[:8]
        goals = carried((0, 125, 125), eight)
        moves = steered(eight, goals)
        self.assertEqual(len(moves), 2000)
        self.assertEqual(len(steered(PAIR, carried((0, 500, -500), PAIR))), 2000)

    def test_wrong_inputs(self):
        for call in (next_move, steered):
            for wrong in (TEN[:9], TEN, None, [(0, 0), (1, 0)], ((1, 0), (0, 0)), ((0, 0), (True, 0))):
                self.refused("standing", call, wrong, wrong)
                self.refused("standing", call, wrong, None)
            for wrong in (ELL, SQUARE + ((5, 5),), None, [*ZIG], ZIG[::-1]):
                self.refused("goals", call, ZIG, wrong)

    def refused(self, word, call, *given):
        with self.assertRaises(NotUsable) as caught:
            call(*given)
        self.assertEqual(vars(caught.exception), {"word": word, "at": -1}, given)

    def test_motions_are_used(self):
        # Goals may be carried far away, as far as the total is at most two thousand.
        for motion in MOTIONS[:8]:
            goals = carried(motion, ELL)
            self.assertEqual(len(steered(ELL, goals)), least_total(distance_table(ELL, goals)))


if __name__ == "__main__":
    unittest.main()
