"""[26], [27] and [28]: weights, hats and pushes; (G2)."""

import itertools
import random
import unittest

from compassless.centres import sum_of, twice_centre
from compassless.errors import Blocked, NoCentre, NotUsable
from compassless.folds import fold_of
from compassless.forms import placer_of
from compassless.hats import hat_of, hats_of, place_by
from compassless.motions import carried, moved
from compassless.orbits import orbit_of
from compassless.pushes import after_moves
from compassless.turns import turned
from compassless.weights import far_ones, leader_of, weight_of
from tests.samples import (
    BAR,
    ELL,
    LINE,
    MOTIONS,
    OFF,
    PLUS,
    SAMPLES,
    SQUARE,
    STEPS,
    TEN,
    WIDEST,
    ZIG,
    centred_uneven,
    spread_out,
)

PAIR = ((0, 0), (3, 1))
CENTRED = [standing for standing in SAMPLES if twice_centre(standing) is not None]
WITHOUT = [standing for standing in SAMPLES if twice_centre(standing) is None]


class Weights(unittest.TestCase):
    def test_weight(self):
        for standing in SAMPLES:
            many, (x, y) = len(standing), sum_of(standing)
            for place in standing:
                due = (many * place[0] - x) ** 2 + (many * place[1] - y) ** 2
                self.assertEqual(weight_of(standing, place), due)
                self.assertEqual(weight_of(place=place, standing=standing), due)

    def test_far_ones_are_whole_orbits(self):
        for standing in SAMPLES:
            far = far_ones(standing)
            most = max(weight_of(standing, place) for place in standing)
            self.assertEqual(far, tuple(p for p in standing if weight_of(standing, p) == most))
            for place in far:
                self.assertTrue(set(orbit_of(standing, place)) <= set(far))

    def test_leader(self):
        for standing in SAMPLES:
            placer = placer_of(standing)
            due = max(far_ones(standing), key=lambda place: moved(placer, place))
            self.assertEqual(leader_of(standing), due)

    def test_spread_out(self):
        for standing in SAMPLES:
            wide = spread_out(standing, 5)
            for place, there in zip(standing, wide):
                self.assertEqual(weight_of(wide, there), 25 * weight_of(standing, place))
            self.assertEqual(far_ones(wide), spread_out(far_ones(standing), 5))
            self.assertEqual(leader_of(wide), spread_out((leader_of(standing),), 5)[0])

    def test_the_widest(self):
        for standing in WIDEST:
            many, (x, y) = len(standing), sum_of(standing)
            weights = [(many * a - x) ** 2 + (many * b - y) ** 2 for a, b in standing]
            self.assertEqual([weight_of(standing, place) for place in standing], weights)
            self.assertIn(leader_of(standing), far_ones(standing))

    def test_two_and_ten_robots(self):
        self.assertEqual(far_ones(PAIR), PAIR)
        self.assertEqual([weight_of(PAIR, place) for place in PAIR], [10, 10])
        self.assertEqual(far_ones(TEN), ((9, 81),))
        self.assertEqual(leader_of(TEN), (9, 81))

    def test_carried(self):
        for standing in SAMPLES:
            leader = leader_of(standing)
            for motion in MOTIONS:
                goal = carried(motion, standing)
                for place in standing:
                    self.assertEqual(weight_of(goal, moved(motion, place)), weight_of(standing, place))
                self.assertIn(leader_of(goal), orbit_of(goal, moved(motion, leader)))


class Hats(unittest.TestCase):
    def refused(self, error, fields, call, *given):
        with self.assertRaises(error) as caught:
            call(*given)
        self.assertEqual(vars(caught.exception), fields, given)

    def test_hats(self):
        for standing in CENTRED:
            x, y = twice_centre(standing)
            for place in standing:
                hat = hat_of(standing, place)
                self.assertEqual(hat, (2 * place[0] - x, 2 * place[1] - y))
                self.assertEqual(place_by(standing, hat), place)
                self.assertEqual(place_by(hat=hat, standing=standing), place)
                many = len(standing)
                self.assertEqual(4 * weight_of(standing, place), many * many * (hat[0] ** 2 + hat[1] ** 2))
            hats = hats_of(standing)
            self.assertEqual(hats, tuple(sorted(hat_of(standing, place) for place in standing)))
            self.assertEqual(sum_of(hats), (0, 0))

    def test_turned_by_the_fold(self):
        for standing in CENTRED:
            hats = hats_of(standing)
            for turn in range(4):
                if turn % (4 // fold_of(standing)) == 0:
                    self.assertEqual(carried((turn, 0, 0), hats), hats)

    def test_carried(self):
        for standing in CENTRED:
            for motion in MOTIONS:
                goal = carried(motion, standing)
                for place in standing:
                    hat = turned(motion[0], hat_of(standing, place))
                    self.assertEqual(hat_of(goal, moved(motion, place)), hat)

    def test_a_place_where_nobody_stands(self):
        for standing in CENTRED:
            x, y = twice_centre(standing)
            for place in ((0, 0), (17, -40)):
                self.assertEqual(place_by(standing, (2 * place[0] - x, 2 * place[1] - y)), place)

    def test_uneven_with_a_centre(self):
        self.assertEqual(hats_of(OFF), ((-4, 0), (-2, 0), (6, 0)))
        self.assertEqual([len(hats_of(standing)) for standing in centred_uneven()], [3, 4, 4, 4])

    def test_no_centre(self):
        self.assertGreater(len(WITHOUT), 10)
        for standing in WITHOUT:
            fields = {"total": sum_of(standing)}
            self.refused(NoCentre, fields, hats_of, standing)
            for place in standing:
                self.refused(NoCentre, fields, hat_of, standing, place)
            for hat in ((0, 0), (1, 0), [0, 0], None, (True, 0)):
                self.refused(NoCentre, fields, place_by, standing, hat)

    def test_a_wrong_place_comes_ahead_of_no_centre(self):
        for place in ((5, 5), None, [0, 0], (False, 0), (True, 0)):
            self.refused(NotUsable, {"word": "place", "at": -1}, hat_of, ELL, place)

    def test_hats_that_are_not_whole(self):
        for standing in CENTRED:
            hat = hat_of(standing, standing[0])
            for x, y in ((1, 0), (0, 1), (1, 1), (-1, 0)):
                wrong = (hat[0] + x, hat[1] + y)
                self.refused(NotUsable, {"word": "hat", "at": -1}, place_by, standing, wrong)
        for wrong in (None, 3, [1, 1], (1,), (1, 1, 1), (True, 1), (1, True), "11", ((1, 1), (3, 3))):
            self.refused(NotUsable, {"word": "hat", "at": -1}, place_by, SQUARE, wrong)


def random_moves(rng, standing):
    """Moves of some robots, none to all, ascending."""
    starts = sorted(rng.sample(standing, rng.randint(0, len(standing))))
    return tuple((place, rng.choice(STEPS)) for place in starts)


def goal_of(move):
    return (move[0][0] + move[1][0], move[0][1] + move[1][1])


def expected(standing, moves):
    """What comes, or the place of the move that is blocked."""
    goals = [goal_of(move) for move in moves]
    for k, move in enumerate(moves):
        if goals[k] in standing or goals[k] in goals[:k] + goals[k + 1 :]:
            return "blocked", move[0]
    starts = [move[0] for move in moves]
    return "comes", tuple(sorted(set(standing) - set(starts) | set(goals)))


class Pushes(unittest.TestCase):
    def blocked(self, place, standing, moves):
        with self.assertRaises(Blocked) as caught:
            after_moves(standing, moves)
        self.assertEqual(vars(caught.exception), {"place": place}, (standing, moves))

    def test_none_some_all(self):
        rng = random.Random(27)
        words = {"blocked": 0, "comes": 0}
        for standing in SAMPLES * 20:
            moves = random_moves(rng, standing)
            word, due = expected(standing, moves)
            words[word] += 1
            if word == "blocked":
                self.blocked(due, standing, moves)
            else:
                self.assertEqual(after_moves(standing, moves), due)
                self.assertEqual(after_moves(moves=moves, standing=standing), due)
        self.assertGreater(min(words.values()), 200)

    def test_no_moves(self):
        for standing in SAMPLES:
            self.assertEqual(after_moves(standing, ()), standing)

    def test_a_taken_goal(self):
        self.blocked((1, 0), LINE, (((1, 0), (1, 0)),))
        self.blocked((2, 0), LINE, (((1, 0), (0, 1)), ((2, 0), (1, 0)), ((3, 0), (-1, 0))))

    def test_nobody_follows(self):
        # The goal is left at once, but somebody stood there before.
        self.blocked((0, 0), BAR, tuple((place, (1, 0)) for place in BAR))
        self.blocked((0, 0), PAIR[:1] + ((0, 1),), (((0, 0), (0, 1)), ((0, 1), (0, 1))))

    def test_two_to_one_goal(self):
        apart = ((0, 0), (2, 0), (5, 5))
        self.blocked((0, 0), apart, (((0, 0), (1, 0)), ((2, 0), (-1, 0))))
        self.blocked((0, 1), ((0, 1), (1, 0), (7, 7)), (((0, 1), (1, 0)), ((1, 0), (0, 1))))

    def test_changing_places(self):
        self.blocked((0, 0), BAR, (((0, 0), (1, 0)), ((1, 0), (-1, 0))))

    def test_the_first_one_counts(self):
        self.blocked((1, 0), LINE, (((0, 0), (-1, 0)), ((1, 0), (1, 0)), ((2, 0), (1, 0))))

    def test_all_robots(self):
        self.assertEqual(after_moves(BAR, tuple((place, (0, 1)) for place in BAR)), ((0, 1), (1, 1), (2, 1)))
        self.assertEqual(after_moves(TEN[1:], tuple((place, (-1, 0)) for place in TEN[1:]))[0], (0, 1))

    def test_wrong_moves(self):
        east = (1, 0)
        wrong = [
            None,
            True,
            "",
            [],
            [((0, 0), east)],
            ((0, 0), east),
            (((0, 0), east, 1),),
            (((0, 0),),),
            ([(0, 0), east],),
            (((0, 0), (1, 1)),),
            (((0, 0), (0, 0)),),
            (((0, 0), (2, 0)),),
            (((0, 0), (True, 0)),),
            (((0, 0), [1, 0]),),
            (((0, 0), None),),
            (((0, False), east),),
            (([0, 0], east),),
            ((None, east),),
            (((5, 5), east),),
            (((0, 0), (0, 1)), ((0, 0), (0, -1))),
            (((0, 0), (0, 1)), ((0, 0), (0, 1))),
            (((2, 0), east), ((0, 0), (0, 1))),
            (((0, 0), (0, 1)), ((5, 5), east)),
            (((0, 0), (0, 1)), None),
        ]
        for moves in wrong:
            shown = repr(moves)
            with self.assertRaises(NotUsable) as caught:
                after_moves(BAR, moves)
            self.assertEqual(vars(caught.exception), {"word": "moves", "at": -1}, shown)
            self.assertEqual(repr(moves), shown)

    def test_a_small_sum_keeps_the_centre(self):
        # (G2), by all moves of small standings.
        for standing in (SQUARE, ZIG, BAR, PLUS, OFF, LINE, ((0, 0), (1, 0))):
            for steps in itertools.product(((0, 0),) + STEPS, repeat=len(standing)):
                moves = tuple((p, s) for p, s in zip(standing, steps) if s != (0, 0))
                if expected(standing, moves)[0] == "comes":
                    self.check_sum(standing, moves)

    def check_sum(self, standing, moves):
        many = len(standing)
        total = (sum(step[0] for _, step in moves), sum(step[1] for _, step in moves))
        bound = 2 * many if many % 2 else many
        if all(2 * abs(entry) < bound for entry in total):
            goal = after_moves(standing, moves)
            if twice_centre(goal) is not None:
                self.assertEqual(total, (0, 0))
                self.assertEqual(twice_centre(goal), twice_centre(standing))
            else:
                self.assertEqual(fold_of(goal), 1)

    def test_the_bound_is_sharp(self):
        goal = after_moves(SQUARE, (((1, 0), (1, 0)), ((1, 1), (1, 0))))
        self.assertEqual((fold_of(goal), twice_centre(goal)), (2, (2, 1)))
        self.assertNotEqual(twice_centre(goal), twice_centre(SQUARE))


if __name__ == "__main__":
    unittest.main()
