"""[43]: kept lots, their orbits and how they are led; of [44] and (G4) what speaks of these."""

import itertools
import random
import unittest

from compassless.errors import NotUsable
from compassless.floorclasses import Motion
from compassless.leasts import least_total
from compassless.orbittables import after_orbit, is_kept, orbit_move, orbit_table, orbits_about
from compassless.roads import distance
from compassless.tables import is_table
from compassless.turns import turned
from tests.samples import BAD_INTEGERS, BAD_PLACES
from tests.test_tables import by_trying

HATS, GOALS = ((-2, 0), (2, 0)), ((0, -4), (0, 4))
TURNS = {2: (0, 2), 4: (0, 1, 2, 3)}
PARITIES = {2: ((0, 0), (1, 1), (1, 0), (0, 1)), 4: ((0, 0), (1, 1))}


def orbit_by(fold, hat):
    return tuple(sorted(turned(turn, hat) for turn in TURNS[fold]))


def draw_lot(rng, fold, many, parity, size):
    """A kept lot of so many orbits, with entries of about this size."""
    found = set()
    while len(found) < many * fold:
        hat = (2 * rng.randint(-size, size) + parity[0], 2 * rng.randint(-size, size) + parity[1])
        if hat != (0, 0):
            found |= set(orbit_by(fold, hat))
    return tuple(sorted(found))


def draw_twins(seed, times):
    """Triples of a fold, hats and goals, of each parity, with none to eight orbits."""
    rng = random.Random(seed)
    for fold in (2, 4):
        for parity in PARITIES[fold]:
            for many in range(9):
                for _ in range(times if many < 7 else 1):
                    size = rng.choice((2, 3, 6)) + many // 2
                    yield fold, draw_lot(rng, fold, many, parity, size), draw_lot(rng, fold, many, parity, size)


def kept_by_words(fold, thing):
    """What [43] says of a tuple of places, word by word."""
    turns = all(turned(turn, place) in thing for place in thing for turn in TURNS[fold])
    even = all((x - v) % 2 == 0 and (y - w) % 2 == 0 for x, y in thing for v, w in thing)
    return turns and even and (0, 0) not in thing and list(thing) == sorted(set(thing))


class Kept(unittest.TestCase):
    def test_all_small_tuples(self):
        spots = list(itertools.product((-2, -1, 0, 1, 2), repeat=2))
        some = [(-2, 0), (0, -2), (0, 2), (2, 0), (-1, -1), (1, 1), (-1, 1), (1, -1), (0, 0), (1, 0)]
        things = [thing for many in (0, 1, 2) for thing in itertools.product(spots, repeat=many)]
        things += [thing for many in (3, 4) for thing in itertools.permutations(some[:9], many)]
        things += list(itertools.combinations(sorted(some), 6))
        for fold in (2, 4):
            found = [is_kept(fold, thing) for thing in things]
            self.assertEqual(found, [kept_by_words(fold, thing) for thing in things])
            self.assertGreaterEqual(found.count(True), 3)

    def test_drawn(self):
        for fold, hats, goals in draw_twins(43, 2):
            self.assertIs(is_kept(fold, hats), True)
            self.assertIs(is_kept(thing=goals, fold=fold), True)
            if hats:
                self.assertIs(is_kept(fold, hats[1:]), False)
                self.assertIs(is_kept(fold, hats[::-1]), False)
                self.assertIs(is_kept(fold, hats + hats), False)
                self.assertIs(is_kept(fold, tuple(sorted(hats + hats))), False)

    def test_four_is_two_as_well(self):
        for fold, hats, _ in draw_twins(44, 2):
            if fold == 4:
                self.assertIs(is_kept(2, hats), True)

    def test_many_hats(self):
        hats = tuple((x, y) for x in range(-49, 50, 2) for y in range(-49, 50, 2))
        self.assertIs(is_kept(4, hats), True)
        self.assertIs(is_kept(2, hats[1:-1]), True)
        self.assertIs(is_kept(4, hats[1:-1]), False)
        self.assertEqual(len(orbits_about(4, hats)), 625)

    def test_any_value(self):
        wrong = [thing for thing in BAD_PLACES if thing not in ((), ((0, 0), (0, 0)))]
        wrong += [[], list(HATS), ([-2, 0], [2, 0]), ((-1, 0), (True, 0)), ((0, 0),), ((-2, 0), None), ""]
        wrong.append(Motion(0, 1, 1))
        for fold in (2, 4):
            self.assertIs(is_kept(fold, ()), True)
            for thing in wrong:
                self.assertIs(is_kept(fold, thing), False, thing)
        self.assertIs(is_kept(2, ((-1, 0), (1, 0))), True)
        self.assertIs(is_kept(4, ((-1, 0), (0, -1), (0, 1), (1, 0))), False)


class Orbits(unittest.TestCase):
    def test_orbits_about(self):
        for fold, hats, _ in draw_twins(45, 2):
            due = tuple(sorted({orbit_by(fold, hat) for hat in hats}))
            self.assertEqual(orbits_about(fold, hats), due)
            self.assertEqual(orbits_about(hats=hats, fold=fold), due)
            self.assertEqual({len(orbit) for orbit in due} - {fold}, set())
        self.assertEqual(orbits_about(2, ()), ())

    def test_more_than_eight_orbits(self):
        hats = tuple((x, 0) for x in range(-23, 24, 2))
        self.assertEqual(len(orbits_about(2, hats)), 12)

    def test_orbit_table(self):
        for fold, hats, goals in draw_twins(46, 2):
            names = [orbit[0] for orbit in orbits_about(fold, goals)]
            due = tuple(
                tuple(min(distance(hat, name) for hat in orbit) // 2 for name in names)
                for orbit in orbits_about(fold, hats)
            )
            self.assertEqual(orbit_table(fold, hats, goals), due)
            self.assertEqual(orbit_table(goals=goals, hats=hats, fold=fold), due)
            self.assertTrue(is_table(due))
            # From whichever hat of the other orbit it is measured, the least distance is the same.
            self.assertEqual(tuple(zip(*due)), orbit_table(fold, goals, hats))


def way_by_twos(place, goal, first):
    """The places from place to goal by steps of two, along the axis called first to begin with."""
    found = [place]
    for axis in (first, 1 - first):
        while found[-1][axis] != goal[axis]:
            here = list(found[-1])
            here[axis] += 2 if goal[axis] > here[axis] else -2
            found.append(tuple(here))
    return found


def expected_move(fold, hats, goals):
    """The r and the next hat of (2) in [10], word by word."""
    if hats == goals:
        return None
    table = orbit_table(fold, hats, goals)
    partners = by_trying(table)[1]
    t = min(hat for hat in goals if hat not in hats)
    orbits, aims = orbits_about(fold, hats), orbits_about(fold, goals)
    orbit = next(orbits[i] for i in range(len(orbits)) if t in aims[partners[i]])
    p = min(orbit, key=lambda hat: (distance(hat, t), hat))
    first = 0 if p[0] <= t[0] else 1
    way = way_by_twos(p, t, first)
    if (0, 0) in way:
        way = way_by_twos(p, t, 1 - first)
    k = max(k for k in range(len(way)) if way[k] in hats)
    return way[k], way[k + 1]


class Moves(unittest.TestCase):
    def check(self, fold, hats, goals):
        move = orbit_move(fold, hats, goals)
        self.assertEqual(move, expected_move(fold, hats, goals), (fold, hats, goals))
        self.assertEqual(orbit_move(hats=hats, goals=goals, fold=fold), move)
        come = after_orbit(fold, hats, goals)
        self.assertEqual(after_orbit(goals=goals, fold=fold, hats=hats), come)
        if move is None:
            self.assertEqual((hats, come), (goals, hats))
            return
        here, there = move
        self.assertEqual(abs(here[0] - there[0]) + abs(here[1] - there[1]), 2)
        self.assertIn(here, hats)
        self.assertNotIn(there, hats + ((0, 0),))
        left = set(hats) - set(orbit_by(fold, here)) | set(orbit_by(fold, there))
        self.assertEqual(come, tuple(sorted(left)))
        self.assertTrue(is_kept(fold, come))
        self.assertEqual(len(come), len(hats))
        self.assertEqual(least_total(orbit_table(fold, come, goals)), least_total(orbit_table(fold, hats, goals)) - 1)

    def test_one_move(self):
        for fold, hats, goals in draw_twins(47, 12):
            if len(hats) <= 6 * fold:
                self.check(fold, hats, goals)

    def test_eight_orbits(self):
        rng = random.Random(48)
        for fold in (2, 4):
            hats, goals = draw_lot(rng, fold, 8, (1, 1), 4), draw_lot(rng, fold, 8, (1, 1), 4)
            total = least_total(orbit_table(fold, hats, goals))
            for k in range(total):
                self.assertNotEqual(hats, goals)
                hats = after_orbit(fold, hats, goals)
                self.assertEqual(least_total(orbit_table(fold, hats, goals)), total - k - 1)
            self.assertEqual(hats, goals)

    def test_to_the_goals(self):
        for fold, hats, goals in draw_twins(49, 3):
            if len(hats) <= 4 * fold:
                for _ in range(least_total(orbit_table(fold, hats, goals))):
                    self.check(fold, hats, goals)
                    hats = after_orbit(fold, hats, goals)
                self.check(fold, hats, goals)

    def test_round_the_middle(self):
        # The road over (0, 0) is not taken, the other one is.
        self.assertEqual(orbit_move(2, HATS, GOALS), ((-2, 0), (-2, -2)))
        self.assertEqual(orbit_move(2, GOALS, HATS), ((0, -4), (-2, -4)))
        self.assertEqual(after_orbit(2, HATS, GOALS), ((-2, -2), (2, 2)))
        for fold in (2, 4):
            for here, there in itertools.product(itertools.product((-4, -2, 0, 2, 4), repeat=2), repeat=2):
                if (0, 0) not in (here, there):
                    self.check(fold, orbit_by(fold, here), orbit_by(fold, there))

    def test_none(self):
        for fold in (2, 4):
            self.assertEqual(orbit_table(fold, (), ()), ())
            self.assertIsNone(orbit_move(fold, (), ()))
            self.assertEqual(after_orbit(fold, (), ()), ())

    def test_two_thousand_steps(self):
        hats, goals = ((-2001, 1), (2001, -1)), ((-5, -1999), (5, 1999))
        self.assertEqual(orbit_table(2, hats, goals), ((1998,),))
        self.assertEqual(orbit_move(2, hats, goals), ((-2001, 1), (-1999, 1)))


class WrongInputs(unittest.TestCase):
    BAD_FOLDS = BAD_INTEGERS + [0, 1, 3, -2, 8, (2,)]
    NOT_KEPT = [None, [], list(HATS), ((-2, 0),), HATS[::-1], HATS + ((3, 3),), ((0, 0),), ((-2, 0), (True, 0))]

    def refused(self, word, call, *given):
        shown = repr(given)
        with self.assertRaises(NotUsable) as caught:
            call(*given)
        self.assertEqual(vars(caught.exception), {"word": word, "at": -1}, shown)
        self.assertEqual(repr(given), shown)

    def test_fold_comes_first(self):
        for wrong in self.BAD_FOLDS:
            self.refused("fold", is_kept, wrong, None)
            self.refused("fold", orbits_about, wrong, None)
            for call in (orbit_table, orbit_move, after_orbit):
                self.refused("fold", call, wrong, None, None)
                self.refused("fold", call, wrong, HATS, GOALS)

    def test_hats(self):
        for wrong in self.NOT_KEPT + [((-1, 0), (0, -1), (0, 1), (1, 0))]:
            self.refused("hats", orbits_about, 4, wrong)
            for call in (orbit_table, orbit_move, after_orbit):
                self.refused("hats", call, 4, wrong, wrong)
                self.refused("hats", call, 4, wrong, None)

    def test_nine_orbits(self):
        nine = tuple((x, 0) for x in range(-17, 18, 2))
        self.assertEqual(len(orbits_about(2, nine)), 9)
        square = tuple(sorted(hat for k in range(9) for hat in orbit_by(4, (2 * k + 1, 1))))
        for call in (orbit_table, orbit_move, after_orbit):
            self.refused("hats", call, 2, nine, nine)
            self.refused("hats", call, 2, nine, None)
            self.refused("hats", call, 4, square, square)

    def test_goals(self):
        others = [(), HATS + GOALS, tuple(sorted(HATS + GOALS))]
        others += [((-1, 0), (1, 0)), ((-1, -1), (1, 1)), ((0, -1), (0, 1))]
        for wrong in self.NOT_KEPT + others:
            for call in (orbit_table, orbit_move, after_orbit):
                self.refused("goals", call, 2, HATS, wrong)
        for call in (orbit_table, orbit_move, after_orbit):
            self.refused("goals", call, 2, (), HATS)
            self.refused("goals", call, 4, orbit_by(4, (2, 0)), tuple(sorted(HATS + ((-4, 0), (4, 0)))))


if __name__ == "__main__":
    unittest.main()
