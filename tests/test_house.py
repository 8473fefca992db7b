"""[59] to [62]: pinned standings, the house's moves and steps, what is left, the class; (G5) to (G7)."""

import itertools
import random
import unittest

from compassless.errors import NotFit, NotPinned, NotUsable
from compassless.fitting import fits
from compassless.floorclasses import Motion
from compassless.folds import class_of
from compassless.forms import alike
from compassless.heldmoves import held_moves
from compassless.heldpictures import held_picture
from compassless.heldnears import near_held
from compassless.heldwants import held_table, held_want
from compassless.house import house_moves, house_step
from compassless.houseclasses import House
from compassless.leasts import least_total
from compassless.lefts import left_of, most_of
from compassless.motions import carried, moved
from compassless.orbits import orbits_of
from compassless.pinned import pinned_depth, pinned_moves
from compassless.pushes import after_moves
from compassless.stances import stances_of
from compassless.standings import side_of
from compassless.turns import turned
from compassless.unevenlefts import uneven_left, uneven_most
from compassless.unevenmoves import uneven_move
from compassless.views import view_of
from tests.samples import (
    BAD_STANDINGS,
    BAR,
    ELL,
    LINE,
    PLUS,
    RING,
    SAMPLES,
    SQUARE,
    STEPS,
    TEE,
    TEN,
    TIES,
    ZIG,
    classes_of,
    draw_standing,
    of_class,
)

MOTIONS = ((1, 3, 0), (2, -5, 7), (3, -1, -2), (0, 4, -9))
LONG = ((-2, 0), (-1, 0), (0, 0), (1, 0), (2, 0))
CROSS = tuple(sorted({(0, 0), *STEPS, *((2 * x, 2 * y) for x, y in STEPS)}))
# A cross with longer arms along x: only the robots at the ends of the short arms make room.
FLAT = tuple(sorted({(0, 0), *STEPS, (2, 0), (-2, 0)}))
PINNED = of_class("pinned") + [LONG, CROSS, FLAT, tuple((x, y) for x in range(3) for y in range(3))]
PAIR = ((0, 0), (3, 1))


def centre_of(standing):
    many = len(standing)
    return sum(x for x, _ in standing) // many, sum(y for _, y in standing) // many


def reach(standing, step):
    """How many of these steps from the centre the first free place is."""
    x, y = centre_of(standing)
    return next(k for k in range(1, 12) if (x + k * step[0], y + k * step[1]) not in standing)


def expected_pinned(standing):
    """The moves with choice of [10], *Pinned*, word by word, over all four frames."""
    x, y = centre_of(standing)
    depth = min(reach(standing, step) for step in STEPS)
    if depth == 1:
        found = set()
        for frame in range(4):
            view = view_of(standing, (x, y), frame)
            own = next(step for step in STEPS if step not in view)
            found.add(turned((4 - frame) % 4, own))
        return (((x, y), tuple(sorted(found))),)
    ways = [step for step in STEPS if reach(standing, step) == depth]
    return tuple(sorted(((x + (depth - 1) * a, y + (depth - 1) * b), ((a, b),)) for a, b in ways))


class Pinned(unittest.TestCase):
    def test_word_by_word(self):
        depths = set()
        for standing in PINNED:
            for motion in ((0, 0, 0),) + MOTIONS:
                other = carried(motion, standing)
                depth = min(reach(other, step) for step in STEPS)
                self.assertEqual(pinned_depth(other), depth)
                self.assertEqual(pinned_depth(standing=other), depth)
                self.assertEqual(pinned_moves(other), expected_pinned(other))
                self.assertEqual(pinned_moves(standing=other), pinned_moves(other))
                depths.add(depth)
        self.assertEqual(depths, {1, 2, 3})

    def test_edges(self):
        self.assertEqual(pinned_moves(BAR), (((1, 0), ((0, -1), (0, 1))),))
        apart = ((0, 0), (5, 5), (10, 10))
        self.assertEqual(pinned_moves(apart), (((5, 5), ((-1, 0), (0, -1), (0, 1), (1, 0))),))
        self.assertEqual(pinned_depth(CROSS), 3)
        self.assertEqual(len(pinned_moves(CROSS)), 4)
        self.assertEqual(pinned_moves(FLAT), (((0, -1), ((0, -1),)), ((0, 1), ((0, 1),))))

    def test_what_comes(self):
        # [61]: whichever of them step, it is uneven or, from depth 2 on, perhaps pinned with one less.
        found = set()
        for standing in PINNED:
            moves, depth = pinned_moves(standing), pinned_depth(standing)
            for many in range(1, len(moves) + 1):
                for some in itertools.combinations(moves, many):
                    for steps in itertools.product(*[steps for _, steps in some]):
                        come = after_moves(standing, tuple((some[k][0], steps[k]) for k in range(many)))
                        found.add(class_of(come)[0])
                        if class_of(come)[0] == "pinned":
                            self.assertGreaterEqual(depth, 2)
                            self.assertEqual(centre_of(come), centre_of(standing))
                            self.assertEqual(pinned_depth(come), depth - 1)
        self.assertEqual(found, {"uneven", "pinned"})

    def test_not_pinned(self):
        for standing in SAMPLES:
            if class_of(standing)[0] != "pinned":
                for call in (pinned_depth, pinned_moves):
                    with self.assertRaises(NotPinned) as caught:
                        call(standing)
                    self.assertEqual(vars(caught.exception), {"told": class_of(standing)})

    def test_alike_or_not(self):
        # pinned_moves knows no figure, house_moves does.
        self.assertEqual(len(pinned_moves(PLUS)), 4)
        self.assertEqual((house_moves(PLUS, PLUS), len(house_moves(PLUS, LONG))), ((), 4))


def pairs(seed, times):
    """Standings of each class, each with some figures of as many places, fitting or not."""
    rng = random.Random(seed)
    for standing in SAMPLES + PINNED + list(TIES):
        figures = [figure for figure in SAMPLES + list(TIES) if len(figure) == len(standing)]
        for figure in rng.sample(figures, min(times, len(figures))) + [standing]:
            yield standing, figure


def expected_house(standing, figure):
    if alike(standing, figure) or not fits(standing, figure):
        return ()
    word = class_of(standing)[0]
    if word == "pinned":
        return pinned_moves(standing)
    if word == "held":
        return tuple((place, (step,)) for place, step in held_moves(standing, figure))
    place, step = uneven_move(standing, figure)
    return ((place, (step,)),)


class Moves(unittest.TestCase):
    def test_word_by_word(self):
        words = {}
        for standing, figure in pairs(60, 5):
            moves = house_moves(standing, figure)
            self.assertEqual(moves, expected_house(standing, figure))
            self.assertEqual(house_moves(figure=figure, standing=standing), moves)
            self.assertEqual([place for place, _ in moves], sorted({place for place, _ in moves}))
            words.setdefault(class_of(standing)[0], set()).add(bool(moves))
        self.assertEqual(words, {word: {True, False} for word in ("uneven", "held", "pinned")})

    def test_two_robots_never_move(self):
        for standing, figure in itertools.product([s for s in SAMPLES if len(s) == 2], repeat=2):
            self.assertEqual(house_moves(standing, figure), ())
            for place in standing:
                self.assertEqual(house_step(view_of(standing, place, 1), figure), (0, 0))

    def test_steps_over_the_four_frames(self):
        # [61]: what a robot reckons from its view is what the house tells of the standing.
        for standing, figure in pairs(61, 2):
            found = {}
            for place in standing:
                steps = set()
                for frame in range(4):
                    step = house_step(view_of(standing, place, frame), figure)
                    steps.add(turned((4 - frame) % 4, step))
                if steps != {(0, 0)}:
                    self.assertNotIn((0, 0), steps)
                    found[place] = tuple(sorted(steps))
            self.assertEqual(tuple(sorted(found.items())), house_moves(standing, figure))

    def test_the_first_free_one(self):
        # East, north, west, south as the view has them.
        self.assertEqual(house_step(((-1, 0), (0, 0), (1, 0)), ELL), (0, 1))
        self.assertEqual(house_step(((0, -1), (0, 0), (0, 1)), ELL), (1, 0))
        self.assertEqual(house_step(((-1, -1), (0, 0), (1, 1)), ELL), (1, 0))
        self.assertEqual(house_step(figure=ELL, view=((-1, 0), (0, 0), (1, 0))), (0, 1))

    def test_carried(self):
        for standing, figure in pairs(62, 2):
            moves = house_moves(standing, figure)
            for motion in MOTIONS:
                due = {}
                for place, steps in moves:
                    due[moved(motion, place)] = tuple(sorted(turned(motion[0], step) for step in steps))
                self.assertEqual(house_moves(carried(motion, standing), figure), tuple(sorted(due.items())))
                self.assertEqual(house_moves(standing, carried(motion, figure)), moves)

    def test_wrong_inputs(self):
        for wrong in (BAR, ((0, 0), (1, 0)), ((0, 0), (0, 1), (1, 0), (1, 1), (2, 2)), SQUARE[::-1], None):
            self.refused("figure", house_moves, ZIG, wrong)
            self.refused("figure", house_step, ZIG, wrong)
        for wrong in BAD_STANDINGS:
            self.refused("standing", house_moves, wrong, wrong)
        for wrong in BAD_STANDINGS + [RING, ((1, 0), (2, 0)), ((0, 1), (0, 2))]:
            self.refused("view", house_step, wrong, None)
            self.refused("view", house_step, wrong, SQUARE)

    def refused(self, word, call, *given):
        with self.assertRaises(NotUsable) as caught:
            call(*given)
        self.assertEqual(vars(caught.exception), {"word": word, "at": -1}, given)


def expected_left(standing, figure):
    if alike(standing, figure):
        return (0, 0, 0, 0, 0)
    word, fold, _ = class_of(standing)
    if word == "pinned":
        return (4, 0, pinned_depth(standing), 0, 0)
    if word == "uneven":
        return uneven_left(standing, figure)
    first = 3 if fold == 4 else 2
    near = near_held(standing, figure)
    if near:
        return (first, 0, near[0], 0, 0)
    _, (_, y), _, stance = held_picture(standing, figure)
    rest = abs(y - stances_of(figure, fold)[stance][1][1]) // 2
    return (first, 1, least_total(held_table(standing, figure)), rest, held_want(standing, figure))


def expected_most(standing, figure):
    if alike(standing, figure):
        return 0
    many, h, k = len(standing), side_of(standing), side_of(figure)

    def uneven(side):
        return (2 * many + 19) * (side + k) + 10 * many

    def held(side):
        return int((many + 3) * (side + k) / 2) + 6

    def wide(side):
        return 2 * (side + k) + 3

    word, fold, _ = class_of(standing)
    return {
        ("uneven", 1): uneven(h),
        ("held", 2): held(h) + uneven(wide(h)),
        ("held", 4): held(h) + held(wide(h)) + uneven(wide(wide(h))),
        ("pinned", 2): h // 2 + 1 + uneven(h + 2),
        ("pinned", 4): h // 2 + 1 + uneven(h + 2),
    }[word, fold]


class Left(unittest.TestCase):
    def test_word_by_word(self):
        firsts = set()
        for standing, figure in pairs(63, 6):
            for call, expected in ((left_of, expected_left), (most_of, expected_most)):
                if fits(standing, figure):
                    due = expected(standing, figure)
                    self.assertEqual(call(standing, figure), due, (standing, figure))
                    self.assertEqual(call(figure=figure, standing=standing), due)
                    for motion in MOTIONS[:2]:
                        self.assertEqual(call(carried(motion, standing), figure), due)
                        self.assertEqual(call(standing, carried(motion, figure)), due)
                else:
                    self.raised(NotFit, {"told": class_of(standing)}, call, standing, figure)
            if fits(standing, figure):
                firsts.add(left_of(standing, figure)[0])
        self.assertEqual(firsts, {0, 1, 2, 3, 4})

    def test_two_robots(self):
        for call, due in ((left_of, (0, 0, 0, 0, 0)), (most_of, 0)):
            self.assertEqual(call(PAIR, carried((3, 1, 1), PAIR)), due)
            self.raised(NotFit, {"told": ("held", 2, "cell")}, call, PAIR, ((0, 0), (1, 1)))

    def test_as_uneven_most(self):
        self.assertEqual(most_of(TEE, ZIG), uneven_most(4, 2, 3))

    def test_wrong_inputs(self):
        for call in (left_of, most_of):
            self.raised(NotUsable, {"word": "standing", "at": -1}, call, None, None)
            self.raised(NotUsable, {"word": "figure", "at": -1}, call, SQUARE, BAR)

    def raised(self, error, fields, call, *given):
        with self.assertRaises(error) as caught:
            call(*given)
        self.assertEqual((type(caught.exception), vars(caught.exception)), (error, fields), given)


def draw_small(rng, many, told):
    while True:
        standing = draw_standing(rng, many, told)
        if side_of(standing) <= 5 + many // 3:
            return standing


class Foes(unittest.TestCase):
    """(G6) and (G7): whoever is woken, in whatever frames, something is less, and the figure comes."""

    def test_to_the_figure(self):
        rng = random.Random(64)
        for many in range(3, 9):
            for told in classes_of(many):
                for aim in classes_of(many):
                    standing, figure = draw_small(rng, many, told), draw_small(rng, many, aim)
                    if fits(standing, figure):
                        self.play(rng, standing, figure)

    def play(self, rng, standing, figure):
        most, left = most_of(standing, figure), left_of(standing, figure)
        told = class_of(standing)
        for _ in range(most):
            if alike(standing, figure):
                break
            moves = house_moves(standing, figure)
            some = sorted(rng.sample(moves, rng.randint(1, len(moves))))
            standing = after_moves(standing, tuple((place, rng.choice(steps)) for place, steps in some))
            self.assertTrue(fits(standing, figure))
            now = left_of(standing, figure)
            self.assertLess(now, left)
            left = now
            told = self.check_class(told, standing, figure)
        self.assertTrue(alike(standing, figure))

    def check_class(self, told, standing, figure):
        """Until the figure stands the fold never rises, and the kind stays as long as it is held."""
        come = class_of(standing)
        if not alike(standing, figure):
            self.assertLessEqual(come[1], told[1])
            if told[0] == come[0] == "held":
                self.assertEqual(come[2], told[2])
        return come

    def test_orbits_see_alike(self):
        # (G1): robots of one orbit make steps that are turns of one another.
        for standing, figure in pairs(65, 1):
            moves = dict(house_moves(standing, figure))
            for orbit in orbits_of(standing):
                self.assertIn(len([place for place in orbit if place in moves]), (0, len(orbit)))


class Houses(unittest.TestCase):
    def test_what_the_functions_tell(self):
        for standing, figure in pairs(66, 2):
            house = House(figure)
            self.assertEqual(house.moves(standing), house_moves(standing, figure))
            self.assertEqual(house.moves(standing=standing), house_moves(standing, figure))
            self.assertIs(house.fitted(standing), fits(standing, figure))
            view = view_of(standing, standing[0], 3)
            self.assertEqual(house.reckon(view), house_step(view, figure))
            if fits(standing, figure):
                self.assertEqual(house.left(standing), left_of(standing, figure))
                self.assertEqual(house.most(standing=standing), most_of(standing, figure))
            else:
                for call in (house.left, house.most):
                    with self.assertRaises(NotFit) as caught:
                        call(standing)
                    self.assertEqual(vars(caught.exception), {"told": class_of(standing)})

    def test_any_figure(self):
        for figure in SAMPLES:
            self.assertEqual(House(figure).moves(figure), ())
            self.assertEqual(House(figure=figure).left(carried((1, 2, 3), figure)), (0, 0, 0, 0, 0))

    def test_equal(self):
        house = House(SQUARE)
        self.assertIs(house == House(SQUARE), True)
        self.assertIs(house != House(SQUARE), False)
        for other in (House(ZIG), House(carried((0, 1, 0), SQUARE)), SQUARE, None, 0, Motion(0, 0, 0)):
            self.assertIs(house == other, False)

    def test_wrong_inputs(self):
        for wrong in BAD_STANDINGS:
            self.refused("figure", House, wrong)
        house = House(SQUARE)
        for wrong in BAD_STANDINGS + [BAR, PLUS, PAIR, TEN]:
            for call in (house.moves, house.left, house.most, house.fitted):
                self.refused("standing", call, wrong)
            self.refused("view", house.reckon, wrong)
        for wrong in (RING, carried((0, 1, 0), LINE), BAR, PLUS):
            self.refused("view", house.reckon, wrong)

    def refused(self, word, call, *given):
        with self.assertRaises(NotUsable) as caught:
            call(*given)
        self.assertEqual(vars(caught.exception), {"word": word, "at": -1}, given)


if __name__ == "__main__":
    unittest.main()
