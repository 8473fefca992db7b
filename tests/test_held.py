"""[55] to [58]: near held standings, their pictures, wants and moves; (G2) and (G6) for these."""

import itertools
import random
import unittest

from compassless.errors import NotFit, NotHeld, NotUsable
from compassless.fitting import fits
from compassless.folds import class_of, fold_of, kind_of
from compassless.forms import alike
from compassless.hats import hat_of, hats_of, place_by
from compassless.heldhomes import held_home, stance_body
from compassless.heldmoves import held_moves
from compassless.heldnears import near_held
from compassless.heldpictures import held_picture
from compassless.heldwants import held_table, held_want
from compassless.leasts import least_total
from compassless.lefts import left_of
from compassless.motions import carried, moved
from compassless.orbits import orbit_of
from compassless.orbittables import orbit_move, orbit_table
from compassless.pushes import after_moves
from compassless.stances import stances_of
from compassless.turns import cone_turn, turned
from compassless.weights import leader_of
from tests.samples import BAR, ELL, LINE, PLUS, RING, SAMPLES, SQUARE, TEE, TEN, TIES, ZIG, draw_standing, of_class

OUT = ((0, 0), (1, 1), (2, 0), (3, 1))
BENT = ((0, 0), (1, 1), (1, 2), (2, 3))
PAIR = ((0, 0), (0, 1))
HELD = [standing for standing in of_class("held") if len(standing) > 2] + list(TIES)
MOTIONS = ((1, 3, 0), (2, -5, 7), (3, -1, -2), (0, 4, -9))
CALLS = (near_held, held_picture, held_want, held_table, held_moves)


def fitting_pairs(seed, times):
    """Held standings, each with some figures that it fits, of its own and of fold 4."""
    rng = random.Random(seed)
    for standing in HELD:
        figures = [figure for figure in HELD if len(figure) == len(standing) and fits(standing, figure)]
        for figure in rng.sample(figures, min(times, len(figures))):
            yield standing, figure


def floor_of(hats):
    """A standing that has these hats, its centre near (0, 0)."""
    x, y = hats[0]
    return tuple(((a - x) // 2, (b - y) // 2) for a, b in hats)


def push_out(standing, figure, more):
    """The standing with its leaders so far out that WANT is 0, and so many steps further."""
    turn, (x, y), others, _ = held_picture(standing, figure)
    away = x + 2 * (held_want(standing, figure) + more)
    fold = fold_of(standing)
    leaders = [turned(q, (away, y)) for q in range(0, 4, 4 // fold)]
    return floor_of(tuple(sorted(others + tuple(leaders))))


def all_pairs(seed, times):
    """The fitting pairs, near their standings and with the leaders far out, turned in all ways."""
    rng = random.Random(seed)
    for standing, figure in fitting_pairs(seed, times):
        yield standing, figure
        yield carried(rng.choice(MOTIONS), push_out(standing, figure, rng.randint(0, 3))), figure
    for figure in HELD:
        for fold in (2, 4)[: fold_of(figure) // 2]:
            for stance in range(len(stances_of(figure, fold))):
                home = held_home(figure, fold, stance, rng.randint(1, 5))
                yield carried(rng.choice(MOTIONS), floor_of(home)), figure


def expected_near(standing, figure):
    fold = fold_of(standing)
    for turn in range(4):
        hats = carried((turn, 0, 0), hats_of(standing))
        for stance in range(len(stances_of(figure, fold))):
            for many in range(1, max(x for x, _ in hats) // 2 + 2):
                if hats == held_home(figure, fold, stance, many):
                    return many, turn, stance
    return None


def expected_picture(standing, figure):
    leader = leader_of(standing)
    turn = cone_turn(hat_of(standing, leader))
    top = turned(turn, hat_of(standing, leader))
    others = [place for place in standing if place not in orbit_of(standing, leader)]
    hats = tuple(sorted(turned(turn, hat_of(standing, place)) for place in others))
    for k, (_, (x, y)) in enumerate(stances_of(figure, fold_of(standing))):
        if (x - top[0]) % 2 == 0 and (y - top[1]) % 2 == 0:
            return turn, top, hats, k


def expected_want(standing, figure):
    _, (x, y), others, stance = held_picture(standing, figure)
    hats = others + stances_of(figure, fold_of(standing))[stance][0]
    wide = max(abs(entry) for hat in hats for entry in hat)
    want = 0
    while 2 * want < 2 * wide + 4 - x or 2 * want < 2 * abs(y) - x:
        want += 1
    return want


def expected_moves(standing, figure):
    """The moves of the rule of the house in a held standing, word by word as [10] tells them."""
    if alike(standing, figure):
        return ()
    fold = fold_of(standing)
    near = near_held(standing, figure)
    if near is not None:
        many, turn, number = near
        x, y = stances_of(figure, fold)[number][1]
        hat, step = (x + 2 * many, y), (-1, 0)
    else:
        turn, hat, others, number = held_picture(standing, figure)
        body = stance_body(figure, fold, number)
        if held_want(standing, figure) > 0:
            step = (1, 0)
        elif others != body:
            hat, goal = orbit_move(fold, others, body)
            step = ((goal[0] - hat[0]) // 2, (goal[1] - hat[1]) // 2)
        else:
            step = (0, 1 if stances_of(figure, fold)[number][1][1] > hat[1] else -1)
    found = []
    for q in range(0, 4, 4 // fold):
        back = (q - turn) % 4
        found.append((place_by(standing, turned(back, hat)), turned(back, step)))
    return tuple(sorted(found))


class Near(unittest.TestCase):
    def test_word_by_word(self):
        found = set()
        for standing, figure in all_pairs(55, 4):
            due = expected_near(standing, figure)
            self.assertEqual(near_held(standing, figure), due, (standing, figure))
            self.assertEqual(near_held(figure=figure, standing=standing), due)
            found.add((fold_of(standing), None if due is None else due[2]))
        self.assertEqual(found, {(2, None), (4, None), (2, 0), (2, 1), (4, 0)})

    def test_homes(self):
        for figure in HELD:
            for fold in (2, 4)[: fold_of(figure) // 2]:
                for stance in range(len(stances_of(figure, fold))):
                    for many in (1, 2, 7):
                        home = floor_of(held_home(figure, fold, stance, many))
                        self.assertEqual(near_held(home, figure), (many, 0, stance))
                        for turn in range(4):
                            # Of the turns that bring the hats to the home the least one is told.
                            due = (many, (4 - turn) % (4 // fold), stance)
                            self.assertEqual(near_held(carried((turn, 5, -7), home), figure), due)

    def test_alike_is_not_near(self):
        for figure in HELD:
            for motion in MOTIONS:
                self.assertIsNone(near_held(carried(motion, figure), figure))


class Pictures(unittest.TestCase):
    def test_word_by_word(self):
        for standing, figure in all_pairs(56, 4):
            due = expected_picture(standing, figure)
            self.assertEqual(held_picture(standing, figure), due, (standing, figure))
            self.assertEqual(held_picture(figure=figure, standing=standing), due)

    def test_both_stances_of_an_edge(self):
        found = set()
        for standing, figure in all_pairs(57, 6):
            if kind_of(standing) == "edge":
                found.add(held_picture(standing, figure)[3])
                found.add(held_picture(carried((1, 0, 0), standing), figure)[3])
        self.assertEqual(found, {0, 1})

    def test_carried(self):
        # [58]: L, O, WANT, the table, t and both stances stay.
        for standing, figure in all_pairs(58, 2):
            _, *picture = held_picture(standing, figure)
            near = near_held(standing, figure)
            for motion in MOTIONS:
                other = carried(motion, standing)
                self.assertEqual(held_picture(other, figure)[1:], tuple(picture))
                self.assertEqual(held_want(other, figure), held_want(standing, figure))
                self.assertEqual(held_table(other, figure), held_table(standing, figure))
                come = near_held(other, figure)
                self.assertEqual(come and (come[0], come[2]), near and (near[0], near[2]))
                self.assertEqual(left_of(other, figure), left_of(standing, figure))


class Wants(unittest.TestCase):
    def test_word_by_word(self):
        wants = set()
        for standing, figure in all_pairs(59, 4):
            want = held_want(standing, figure)
            self.assertEqual(want, expected_want(standing, figure), (standing, figure))
            self.assertEqual(held_want(figure=figure, standing=standing), want)
            wants.add(want > 0)
            fold = fold_of(standing)
            _, _, others, stance = held_picture(standing, figure)
            table = orbit_table(fold, others, stance_body(figure, fold, stance))
            self.assertEqual(held_table(standing, figure), table)
            self.assertEqual(held_table(figure=figure, standing=standing), table)
        self.assertEqual(wants, {True, False})

    def test_far_up(self):
        # The leader stands so high that its own y decides: 2 |Y| - X is more than 2 N + 4 - X.
        high = ((-11, -9), (-1, 0), (1, 0), (11, 9))
        self.assertEqual(held_picture(high, RING)[1], (22, 18))
        self.assertEqual((held_want(high, RING), expected_want(high, RING)), (7, 7))
        low = carried((1, 0, 0), ((-11, -10), (-1, 0), (1, 0), (11, 10)))
        self.assertEqual((held_want(low, RING), expected_want(low, RING)), (9, 9))

    def test_no_others(self):
        self.assertEqual((held_table(SQUARE, SQUARE), held_want(SQUARE, SQUARE)), ((), 3))


class Moves(unittest.TestCase):
    def test_word_by_word(self):
        folds = set()
        for standing, figure in all_pairs(60, 5):
            moves = held_moves(standing, figure)
            self.assertEqual(moves, expected_moves(standing, figure), (standing, figure))
            self.assertEqual(held_moves(figure=figure, standing=standing), moves)
            if not alike(standing, figure):
                self.check_orbit(standing, moves)
                folds.add((class_of(standing), fold_of(figure)))
        # Fold 2 of each kind, also towards fold 4; fold 4 of both kinds.
        self.assertEqual(len(folds), 7)

    def check_orbit(self, standing, moves):
        """One whole orbit moves, by steps that are turns of one another."""
        places = tuple(place for place, _ in moves)
        self.assertEqual(places, orbit_of(standing, places[0]))
        by_hat = {hat_of(standing, place): step for place, step in moves}
        hat = hat_of(standing, places[0])
        for turn in range(0, 4, 4 // fold_of(standing)):
            self.assertEqual(by_hat[turned(turn, hat)], turned(turn, by_hat[hat]))

    def test_alike(self):
        for figure in HELD:
            for motion in MOTIONS:
                self.assertEqual(held_moves(carried(motion, figure), figure), ())

    def test_carried(self):
        for standing, figure in all_pairs(61, 2):
            for motion in MOTIONS:
                moves = held_moves(standing, figure)
                due = sorted((moved(motion, place), turned(motion[0], step)) for place, step in moves)
                self.assertEqual(held_moves(carried(motion, standing), figure), tuple(due))
                self.assertEqual(held_moves(standing, carried(motion, figure)), moves)

    def test_if_all_step(self):
        for standing, figure in all_pairs(62, 4):
            if not alike(standing, figure):
                self.check_all(standing, figure)

    def check_all(self, standing, figure):
        come = after_moves(standing, held_moves(standing, figure))
        near = near_held(standing, figure)
        if alike(come, figure):
            self.assertTrue(near is None or near[0] == 1)
            return
        self.assertEqual(class_of(come), class_of(standing))
        left, now = left_of(standing, figure), left_of(come, figure)
        self.assertLess(now, left)
        if near is not None:
            self.assertEqual(now, (left[0], 0, near[0] - 1, 0, 0))
        elif near_held(come, figure) is None:
            first, _, total, rest, want = left
            if want > 0:
                self.assertEqual(now, (first, 1, total, rest, want - 1))
            elif total > 0:
                self.assertEqual(now, (first, 1, total - 1, rest, 0))
            else:
                self.assertEqual(now, (first, 1, total, rest - 1, 0))

    def test_if_some_step(self):
        folds = set()
        for standing, figure in all_pairs(63, 3):
            moves = held_moves(standing, figure)
            for many in range(1, len(moves)):
                for some in itertools.combinations(moves, many):
                    come = after_moves(standing, some)
                    self.assertFalse(alike(come, figure))
                    self.assertIn(class_of(come)[:2], (("uneven", 1), ("held", fold_of(standing) // 2)))
                    self.assertTrue(fits(come, figure))
                    self.assertLess(left_of(come, figure), left_of(standing, figure))
                    folds.add((fold_of(standing), fold_of(come)))
        self.assertEqual(folds, {(2, 1), (4, 1), (4, 2)})

    def test_to_the_figure(self):
        # (G7): if all are woken each time, the figure comes after at most E(h) ticks.
        for standing, figure in fitting_pairs(64, 1):
            if len(standing) <= 8:
                self.walk(standing, figure)

    def walk(self, standing, figure):
        sides = [max(max(p[k] for p in s) - min(p[k] for p in s) for k in range(2)) for s in (standing, figure)]
        for _ in range((len(standing) + 3) * sum(sides) // 2 + 6):
            if alike(standing, figure):
                break
            self.assertEqual(held_moves(standing, figure), expected_moves(standing, figure))
            standing = after_moves(standing, held_moves(standing, figure))
        self.assertTrue(alike(standing, figure))


class Errors(unittest.TestCase):
    def raised(self, error, fields, call, *given):
        with self.assertRaises(error) as caught:
            call(*given)
        self.assertEqual((type(caught.exception), vars(caught.exception)), (error, fields), given)

    def test_not_held(self):
        for standing in [s for s in SAMPLES if len(s) > 2 and class_of(s)[0] != "held"]:
            for call in CALLS:
                self.raised(NotHeld, {"told": class_of(standing)}, call, standing, standing)
        for call in CALLS:
            self.raised(NotHeld, {"told": ("uneven", 1, "")}, call, TEE, SQUARE)
            self.raised(NotHeld, {"told": ("pinned", 2, "place")}, call, BAR, ELL)

    def test_not_fit(self):
        for standing in HELD:
            for figure in SAMPLES:
                if len(figure) == len(standing) and not fits(standing, figure):
                    for call in CALLS:
                        self.raised(NotFit, {"told": class_of(standing)}, call, standing, figure)

    def test_parameters_first(self):
        for call in CALLS:
            self.raised(NotUsable, {"word": "standing", "at": -1}, call, PAIR, PAIR)
            self.raised(NotUsable, {"word": "standing", "at": -1}, call, ZIG[::-1], None)
            self.raised(NotUsable, {"word": "figure", "at": -1}, call, ZIG, PAIR)
            self.raised(NotUsable, {"word": "figure", "at": -1}, call, TEE, BAR)
            self.raised(NotUsable, {"word": "figure", "at": -1}, call, PLUS, TEN)

    def test_sides_of_two_hundred(self):
        wide = ((-100, -100), (-100, 100), (100, -100), (100, 100))
        self.assertEqual(class_of(wide), ("held", 4, "place"))
        self.assertEqual((held_want(wide, RING), held_want(carried((0, 10**9, -(10**9)), wide), RING)), (100, 100))
        self.assertEqual(held_moves(wide, RING), expected_moves(wide, RING))


if __name__ == "__main__":
    unittest.main()
