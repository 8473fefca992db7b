"""[21], [22] and [23]: centres, folds and orbits; of [28] and (G1) what speaks of these."""

import unittest
from fractions import Fraction

from compassless.centres import about, kept_by, sum_of, twice_centre
from compassless.folds import class_of, fold_of, kind_of
from compassless.motions import carried, moved
from compassless.orbits import orbit_of, orbits_of
from compassless.turns import turned
from tests.samples import (
    BAR,
    ELL,
    LINE,
    MOTIONS,
    OFF,
    PLUS,
    RING,
    SAMPLES,
    SQUARE,
    UNEVEN,
    WIDEST,
    ZIG,
    centred_uneven,
    classes_of,
    of_class,
    spread_out,
    told_class,
)

FOLD_TURNS = {1: (0,), 2: (0, 2), 4: (0, 1, 2, 3)}


class Centres(unittest.TestCase):
    def test_sum_and_centre(self):
        for standing in SAMPLES:
            many = len(standing)
            total = (sum(x for x, _ in standing), sum(y for _, y in standing))
            self.assertEqual(sum_of(standing), total)
            twice = tuple(Fraction(2 * entry, many) for entry in total)
            if all(entry.denominator == 1 for entry in twice):
                self.assertEqual(twice_centre(standing), twice)
                self.assertEqual([type(entry) for entry in twice_centre(standing)], [int, int])
            else:
                self.assertIsNone(twice_centre(standing))

    def test_about_is_a_turn_of_what_is_seen_from_the_centre(self):
        for twice in ((0, 0), (2, 4), (-3, 5), (1, 0), (4, -7)):
            for place in ((0, 0), (3, 1), (-2, 6)):
                for turn in range(4):
                    x, y = turned(turn, (2 * place[0] - twice[0], 2 * place[1] - twice[1]))
                    due = (Fraction(twice[0] + x, 2), Fraction(twice[1] + y, 2))
                    found = about(twice, turn, place)
                    if all(entry.denominator == 1 for entry in due):
                        self.assertEqual(found, due)
                    else:
                        self.assertIsNone(found)

    def test_where_about_finds_no_place(self):
        for x in range(-2, 3):
            for y in range(-2, 3):
                for turn in range(4):
                    none = turn in (1, 3) and (x - y) % 2 == 1
                    self.assertIs(about((x, y), turn, (5, -3)) is None, none)

    def test_kept_by(self):
        for standing in SAMPLES:
            fold = told_class(standing)[1]
            for turn in range(4):
                self.assertIs(kept_by(standing, turn), turn in FOLD_TURNS[fold])
        for turn in range(4):
            self.assertIs(kept_by(standing=ELL, turn=turn), turn == 0)
            # The quarter brings the places of LINE to no places.
            self.assertIs(kept_by(LINE, turn), turn in (0, 2))


class Folds(unittest.TestCase):
    def test_classes(self):
        for standing in SAMPLES:
            told = told_class(standing)
            self.assertEqual(class_of(standing), told)
            self.assertEqual(fold_of(standing), told[1])
            if told != UNEVEN:
                self.assertEqual(kind_of(standing), told[2])

    def test_the_widest(self):
        for standing in WIDEST:
            self.assertEqual(class_of(standing), told_class(standing))
            self.assertEqual(orbits_of(standing)[0][0], standing[0])
            self.assertEqual(len(orbits_of(standing)[0]), fold_of(standing))
        self.assertEqual(len({class_of(standing) for standing in WIDEST}), 6)

    def test_spread_out(self):
        for standing in SAMPLES:
            word, fold, kind = class_of(standing)
            self.assertEqual(class_of(spread_out(standing, 3)), (word, fold, kind))
            self.assertEqual(class_of(spread_out(standing, 2)), (word, fold, kind and "place"))

    def test_each_class_is_there(self):
        for many in range(2, 11):
            found = {class_of(standing) for standing in SAMPLES if len(standing) == many}
            self.assertEqual(found, set(classes_of(many)))

    def test_uneven_with_and_without_a_centre(self):
        self.assertEqual([kind_of(standing) for standing in centred_uneven()], ["place", "place", "cell", "edge"])
        self.assertEqual({class_of(standing) for standing in centred_uneven()}, {UNEVEN})
        self.assertEqual((kind_of(ELL), class_of(ELL), fold_of(OFF)), ("", UNEVEN, 1))

    def test_carried(self):
        for standing in SAMPLES:
            for motion in MOTIONS:
                goal = carried(motion, standing)
                self.assertEqual(class_of(goal), class_of(standing))
                self.assertEqual(fold_of(goal), fold_of(standing))
                self.assertEqual(kind_of(goal), kind_of(standing))
                self.check_carried_centre(standing, motion, goal)

    def check_carried_centre(self, standing, motion, goal):
        twice = twice_centre(standing)
        if twice is None:
            self.assertIsNone(twice_centre(goal))
        else:
            turn, a, b = motion
            self.assertEqual(twice_centre(goal), moved((turn, 2 * a, 2 * b), twice))

    def test_how_many_robots(self):
        for standing in of_class("held"):
            self.assertEqual(len(standing) % fold_of(standing), 0)
        for standing in of_class("pinned"):
            self.assertEqual((len(standing) - 1) % fold_of(standing), 0)
        for standing in of_class("uneven"):
            self.assertGreater(len(standing), 2)

    def test_what_keeps_a_standing(self):
        # (G1): a motion that keeps it is a turn of its fold about its centre.
        for standing in SAMPLES:
            for turn in range(4):
                first = moved((turn, 0, 0), standing[0])
                for goal in standing:
                    motion = (turn, goal[0] - first[0], goal[1] - first[1])
                    if carried(motion, standing) == standing:
                        self.assertTrue(kept_by(standing, turn))
                        if turn == 0:
                            self.assertEqual(motion, (0, 0, 0))
                        else:
                            places = [about(twice_centre(standing), turn, place) for place in standing]
                            self.assertEqual(places, [moved(motion, place) for place in standing])


class Orbits(unittest.TestCase):
    def test_each_place_is_in_just_one(self):
        for standing in SAMPLES:
            orbits = orbits_of(standing)
            self.assertEqual(sorted(place for orbit in orbits for place in orbit), list(standing))
            self.assertEqual(list(orbits), sorted(orbits))
            for orbit in orbits:
                self.assertEqual(list(orbit), sorted(orbit))
                for place in orbit:
                    self.assertEqual(orbit_of(standing, place), orbit)
                    self.assertEqual(orbit_of(place=place, standing=standing), orbit)

    def test_what_they_are(self):
        for standing in SAMPLES:
            twice = twice_centre(standing)
            fold = fold_of(standing)
            for place in standing:
                if fold == 1:
                    due = {place}
                else:
                    due = {about(twice, turn, place) for turn in FOLD_TURNS[fold]}
                self.assertEqual(orbit_of(standing, place), tuple(sorted(due)))
                middle = (2 * place[0], 2 * place[1]) == twice
                self.assertEqual(len(due), 1 if middle else fold)

    def test_the_centre_of_a_pinned_one(self):
        self.assertEqual(orbit_of(PLUS, (1, 1)), ((1, 1),))
        self.assertEqual(orbits_of(PLUS), (((0, 1), (1, 0), (1, 2), (2, 1)), ((1, 1),)))
        self.assertEqual(orbits_of(BAR), (((0, 0), (2, 0)), ((1, 0),)))

    def test_uneven_and_even(self):
        self.assertEqual(orbits_of(ELL), (((0, 0),), ((0, 1),), ((1, 0),)))
        self.assertEqual(orbits_of(OFF), (((0, 0),), ((1, 0),), ((5, 0),)))
        self.assertEqual(orbits_of(SQUARE), (SQUARE,))
        self.assertEqual(orbits_of(RING), (RING,))
        self.assertEqual(orbit_of(ZIG, (3, 1)), ((0, 0), (3, 1)))

    def test_carried(self):
        for standing in SAMPLES:
            for motion in MOTIONS:
                goal = carried(motion, standing)
                for place in standing:
                    due = sorted(moved(motion, spot) for spot in orbit_of(standing, place))
                    self.assertEqual(orbit_of(goal, moved(motion, place)), tuple(due))


if __name__ == "__main__":
    unittest.main()
