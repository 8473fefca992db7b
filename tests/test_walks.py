"""[52], and [51] along whole walks: (G5), what goes down by each move, and what stays the same."""

import random
import unittest

from compassless.errors import NotUneven, NotUsable
from compassless.floorclasses import Motion
from compassless.folds import class_of
from compassless.forms import alike
from compassless.homes import home_of
from compassless.motions import carried
from compassless.nears import near_of
from compassless.pictures import picture_of
from compassless.pushes import after_moves
from compassless.standings import side_of
from compassless.unevenlefts import uneven_left, uneven_most
from compassless.unevenmoves import uneven_move
from compassless.walks import Walk
from compassless.weights import leader_of
from compassless.wished import wished_of, wished_y
from tests.samples import BAD_INTEGERS, BAD_STANDINGS, BAR, ELL, SQUARE, UNEVEN, ZIG, classes_of, draw_standing
from tests.test_uneven import LARGE, OTHERS, PAIR, UNEVENS

NOTHING = (0, 0, 0, 0, 0)


def draw_small(rng, many, told):
    """A standing of the class whose side is not large, so that walks are short."""
    while True:
        standing = draw_standing(rng, many, told)
        if side_of(standing) <= 5 + many // 3:
            return standing


def short_pairs(seed):
    """An uneven standing and a figure of each class, for each number of places."""
    rng = random.Random(seed)
    for many in range(3, 11):
        for told in classes_of(many):
            yield draw_small(rng, many, UNEVEN), draw_small(rng, many, told)


def kept_on_the_way(standing, figure):
    """What stays the same until a near standing comes, all in the picture."""
    turn, _, others = picture_of(standing)
    return turn, others[0], wished_of(standing, figure), wished_y(standing, figure)


def led_on(leader, move):
    """Where the robot that leads stands behind the move."""
    place, step = move
    return (place[0] + step[0], place[1] + step[1]) if place == leader else leader


class WholeWalks(unittest.TestCase):
    def test_to_the_figure(self):
        words = {"want": 0, "total": 0, "rest": 0, "near": 0}
        for standing, figure in short_pairs(51):
            walk = Walk(standing, figure)
            most = uneven_most(len(standing), side_of(standing), side_of(figure))
            self.follow(walk, figure, words)
            self.assertLessEqual(len(walk.told()) - 1, most)
        self.assertGreater(min(words.values()), 30, words)

    def follow(self, walk, figure, words):
        left, kept = walk.left(), None
        while left != NOTHING:
            here, move = walk.now(), walk.ahead()
            self.assertEqual(walk.go(), 1)
            # after_moves raises no Blocked: nobody stands where the robot goes.
            self.assertEqual(walk.now(), after_moves(here, (move,)))
            come = walk.left()
            self.assertEqual(walk.done(), come == NOTHING)
            self.assertTrue(walk.done() or class_of(walk.now()) == UNEVEN)
            self.assertLess(come, left)
            if left[1] == 1 and come[1] == 1:
                kept = kept or kept_on_the_way(here, figure)
                self.assertEqual(kept_on_the_way(walk.now(), figure), kept)
                self.assertEqual(leader_of(walk.now()), led_on(leader_of(here), move))
            words[self.check_numbers(left, come)] += 1
            left = come
        self.assertEqual((walk.ahead(), walk.go(), walk.go(9)), (None, 0, 0))

    def check_numbers(self, left, come):
        """The word for what was to be done, if it has gone down and nothing else."""
        _, _, total, rest, want = left
        if left[1] == 0:
            self.assertEqual(come, (1, 0, total - 1, 0, 0) if total > 1 else NOTHING)
            return "near"
        word = "want" if want > 0 else "total" if total > 0 else "rest"
        if come[1] == 1:
            due = {"want": (total, rest, want - 1), "total": (total - 1, rest), "rest": (0, rest - 1)}[word]
            self.assertEqual(come[2 : 2 + len(due)], due)
        return word

    def test_as_the_functions_tell(self):
        for standing, figure in list(short_pairs(53))[:8]:
            walk = Walk(standing, figure)
            while not walk.done():
                self.assertEqual(walk.ahead(), uneven_move(walk.now(), figure))
                self.assertEqual(walk.left(), uneven_left(walk.now(), figure))
                walk.go(3)

    def test_from_home(self):
        for figure in LARGE:
            for many in (1, 4):
                walk = Walk(home_of(figure, many), figure)
                self.assertEqual(walk.left(), (1, 0, many, 0, 0))
                self.assertEqual((walk.go(100), walk.done(), walk.go()), (many, True, 0))
                self.assertEqual(walk.told(), tuple(home_of(figure, many - k) for k in range(many + 1)))


class Walks(unittest.TestCase):
    FAR = ((0, 0), (0, 1), (3, 0))

    def test_step_by_step(self):
        walk = Walk(figure=ELL, standing=self.FAR)
        self.assertEqual((walk.now(), walk.done(), walk.told()), (self.FAR, False, (self.FAR,)))
        self.assertEqual((walk.ahead(), walk.left()), (((3, 0), (-1, 0)), (1, 0, 2, 0, 0)))
        self.assertEqual((walk.go(0), walk.now()), (0, self.FAR))
        self.assertEqual((walk.go(many=1), walk.now()), (1, ((0, 0), (0, 1), (2, 0))))
        told = walk.told()
        self.assertEqual((walk.go(2000), walk.now(), walk.done()), (1, ELL, True))
        self.assertEqual(told, (self.FAR, ((0, 0), (0, 1), (2, 0))))
        self.assertEqual(walk.told(), told + (ELL,))

    def test_many_at_once(self):
        for standing, figure in list(short_pairs(52))[:6]:
            one, two = Walk(standing, figure), Walk(standing, figure)
            while one.go():
                pass
            self.assertEqual(two.go(7) + two.go(2000), len(one.told()) - 1)
            self.assertEqual((two.told(), two == one), (one.told(), True))

    def test_alike_from_the_start(self):
        for figure in LARGE:
            for motion in ((0, 0, 0), (1, 3, -4)):
                walk = Walk(carried(motion, figure), figure)
                self.assertEqual((walk.done(), walk.ahead(), walk.left()), (True, None, NOTHING))
                self.assertEqual((walk.go(0), walk.go(), walk.go(5)), (0, 0, 0))
                self.assertEqual(walk.told(), (carried(motion, figure),))
                self.assertTrue(alike(walk.now(), figure))

    def test_equal(self):
        walk, same = Walk(self.FAR, ELL), Walk(self.FAR, ELL)
        self.assertIs(walk == same, True)
        walk.go()
        self.assertIs(walk == same, False)
        self.assertIs(walk != same, True)
        same.go()
        self.assertIs(walk == same, True)
        other = Walk(self.FAR, carried((1, 0, 0), ELL))
        other.go()
        # An alike figure makes the same standings, but is not enough.
        self.assertEqual(other.told(), walk.told())
        self.assertIs(walk == other, False)
        late = Walk(((0, 0), (0, 1), (2, 0)), ELL)
        self.assertEqual(late.now(), walk.now())
        for thing in (late, None, walk.told(), self.FAR, 0, Motion(0, 0, 0)):
            self.assertIs(walk == thing, False)

    def test_not_uneven(self):
        for standing in OTHERS:
            for figure in [other for other in UNEVENS if len(other) == len(standing)][:2]:
                with self.assertRaises(NotUneven) as caught:
                    Walk(standing, figure)
                self.assertEqual(vars(caught.exception), {"told": class_of(standing)})

    def test_wrong_inputs(self):
        for wrong in BAD_STANDINGS + [PAIR]:
            self.refused("standing", lambda w=wrong: Walk(w, w))
            self.refused("standing", lambda w=wrong: Walk(w, None))
            self.refused("figure", lambda w=wrong: Walk(BAR, w))
        self.refused("figure", lambda: Walk(SQUARE, BAR))
        self.refused("figure", lambda: Walk(ELL, ZIG))
        walk = Walk(self.FAR, ELL)
        for wrong in BAD_INTEGERS + [-1]:
            self.refused("many", lambda w=wrong: walk.go(w))
            self.refused("many", lambda w=wrong: walk.go(many=w))
        self.assertEqual(walk.told(), (self.FAR,))

    def refused(self, word, call):
        with self.assertRaises(NotUsable) as caught:
            call()
        self.assertEqual(vars(caught.exception), {"word": word, "at": -1})

    def test_wide(self):
        wide = ((0, 0), (0, 200), (100, 100), (200, 7))
        walk = Walk(wide, ZIG)
        self.assertEqual(walk.left()[:2], (1, 1))
        most = uneven_most(4, 200, side_of(ZIG))
        self.assertLessEqual(sum(walk.go(2000) for _ in range(4)), most)
        self.assertTrue(walk.done())
        self.assertIsNone(near_of(wide, ZIG))


if __name__ == "__main__":
    unittest.main()
