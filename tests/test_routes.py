"""[32], [33] and [36]: routes, tables of fitting and Figures; of [35] what speaks of these."""

import itertools
import random
import unittest

from compassless.errors import NotUsable
from compassless.figureclasses import Figures
from compassless.fittables import classes_by, fit_both, fit_table
from compassless.fitting import fits
from compassless.motions import carried
from compassless.routes import route_of
from tests.samples import (
    BAD_INTEGERS,
    BAD_STANDINGS,
    BAR,
    ELL,
    LINE,
    RING,
    SAMPLES,
    SQUARE,
    TEE,
    ZIG,
    classes_of,
    told_class,
)


def due_route(standing, figures):
    """[32] by trying all sequences."""
    numbers = range(len(figures))
    for way in itertools.permutations(numbers):
        line = [standing] + [figures[i] for i in way]
        if all(fits(one, two) for one, two in zip(line, line[1:])):
            return ("way", way)
    for i in numbers:
        if not fits(standing, figures[i]):
            return ("start", i)
    for i, j in itertools.combinations(numbers, 2):
        if not fits(figures[i], figures[j]) and not fits(figures[j], figures[i]):
            return ("apart", i, j)
    return None


def random_choices(rng, most, least=0):
    """A standing and some figures of as many places, some of them twice."""
    some = [s for s in SAMPLES if len(s) == rng.choice((2, 3, 4, 4, 4, 8, 8, 9, 10))]
    while not some:
        some = [s for s in SAMPLES if len(s) == rng.choice((2, 4, 8))]
    many = len(rng.choice(some))
    some = [s for s in SAMPLES if len(s) == many]
    figures = [rng.choice(some) for _ in range(rng.randint(least, most))]
    return rng.choice(some), figures


def refused(test, at, call, *given):
    shown = repr(given)
    with test.assertRaises(NotUsable) as caught:
        call(*given)
    test.assertEqual(vars(caught.exception), {"word": "figures", "at": at}, shown)
    test.assertEqual(repr(given), shown)


class Routes(unittest.TestCase):
    def test_routes(self):
        rng = random.Random(32)
        words = {"way": 0, "start": 0, "apart": 0}
        for _ in range(600):
            standing, figures = random_choices(rng, 5)
            found = route_of(standing, *figures)
            self.assertEqual(found, due_route(standing, figures), (standing, figures))
            self.assertIs(type(found[1]), tuple if found[0] == "way" else int)
            words[found[0]] += 1
            if found[0] == "way":
                self.check_sequence(figures, found[1])
        self.assertGreater(min(words.values()), 20)

    def check_sequence(self, figures, numbers):
        """Those that are not held first, then fold 2, then fold 4, each ascending; n above 2."""
        if figures and len(figures[0]) > 2:
            told = [told_class(figures[i]) for i in numbers]
            ranks = [(1 if word != "held" else fold, i) for (word, fold, _), i in zip(told, numbers)]
            self.assertEqual(ranks, sorted(ranks))

    def test_none_one_five(self):
        self.assertEqual(route_of(SQUARE), ("way", ()))
        self.assertEqual(route_of(standing=ZIG), ("way", ()))
        self.assertEqual(route_of(ZIG, SQUARE), ("way", (0,)))
        self.assertEqual(route_of(SQUARE, ZIG), ("start", 0))
        self.assertEqual(route_of(TEE, SQUARE, ZIG, TEE, SQUARE, TEE), ("way", (2, 4, 1, 0, 3)))
        self.assertEqual(route_of(BAR, ELL, BAR, ELL, BAR, ELL), ("way", (0, 1, 2, 3, 4)))

    def test_start_and_apart(self):
        self.assertEqual(route_of(TEE, TEE, RING, SQUARE, LINE), ("apart", 1, 2))
        self.assertEqual(route_of(TEE, SQUARE, ZIG, LINE, RING), ("apart", 0, 2))
        self.assertEqual(route_of(ZIG, SQUARE, RING, LINE), ("start", 1))

    def test_two_robots(self):
        pair, other = ((0, 0), (1, 0)), ((3, 3), (3, 4))
        self.assertEqual(route_of(pair, other, pair), ("way", (0, 1)))
        self.assertEqual(route_of(pair, other, ((0, 0), (3, 0))), ("start", 1))

    def test_wrong_figures(self):
        for wrong in BAD_STANDINGS + [BAR, carried((1, 2, 3), ELL)]:
            refused(self, 0, route_of, SQUARE, wrong)
            refused(self, 1, route_of, SQUARE, ZIG, wrong, wrong)
            refused(self, 4, route_of, SQUARE, ZIG, ZIG, ZIG, ZIG, wrong)

    def test_the_standing_comes_first(self):
        for wrong in BAD_STANDINGS:
            with self.assertRaises(NotUsable) as caught:
                route_of(wrong, wrong)
            self.assertEqual(vars(caught.exception), {"word": "standing", "at": -1})


class Tables(unittest.TestCase):
    def test_fit_table(self):
        rng = random.Random(33)
        for _ in range(300):
            _, figures = random_choices(rng, 8, 1)
            due = tuple(tuple(fits(one, two) for two in figures) for one in figures)
            self.assertEqual(repr(fit_table(*figures)), repr(due))
        self.assertEqual(fit_table(SQUARE), ((True,),))
        self.assertEqual(len(fit_table(*[ZIG, SQUARE] * 4)), 8)

    def test_wrong_figures(self):
        for call in (fit_table, Figures):
            refused(self, -1, call)
            for wrong in BAD_STANDINGS:
                refused(self, 0, call, wrong)
                refused(self, 0, call, wrong, wrong)
                refused(self, 1, call, SQUARE, wrong, wrong)
            refused(self, 2, call, SQUARE, ZIG, BAR, ELL)
            refused(self, 1, call, BAR, ZIG)

    def test_both(self):
        for one in SAMPLES:
            for two in SAMPLES:
                if len(one) == len(two):
                    due = fits(one, two) and fits(two, one)
                    self.assertIs(fit_both(one, two), due)
                    self.assertIs(fit_both(other=one, standing=two), due)

    def test_classes_by(self):
        for many in range(2, 11):
            self.assertEqual(classes_by(many), tuple(classes_of(many)))
            self.assertEqual(classes_by(many=many), tuple(sorted(classes_of(many))))
            found = {told_class(standing) for standing in SAMPLES if len(standing) == many}
            self.assertEqual(found, set(classes_by(many)))

    def test_wrong_many(self):
        for wrong in BAD_INTEGERS + [-2, 0, 1, 11, 10**30]:
            with self.assertRaises(NotUsable) as caught:
                classes_by(wrong)
            self.assertEqual(vars(caught.exception), {"word": "many", "at": -1})


class Plans(unittest.TestCase):
    def test_what_the_functions_tell(self):
        rng = random.Random(36)
        none = 0
        for _ in range(300):
            standing, figures = random_choices(rng, 5, 1)
            plan = Figures(*figures)
            fitted = tuple(fits(standing, figure) for figure in figures)
            self.assertEqual(plan.fitted(standing), fitted)
            self.assertEqual(plan.route(standing), route_of(standing, *figures))
            self.assertEqual(plan.table(), fit_table(*figures))
            self.assertEqual(len(plan), len(figures))
            due = None if all(fitted) else fitted.index(False)
            self.assertEqual(plan.barred(standing), due)
            none += due is None
        self.assertGreater(none, 50)
        self.assertLess(none, 250)

    def test_by_name(self):
        plan = Figures(SQUARE, ZIG)
        self.assertEqual(plan.fitted(standing=SQUARE), (True, False))
        self.assertEqual(plan.route(standing=SQUARE), ("start", 1))
        self.assertEqual(plan.barred(standing=ZIG), None)

    def test_equal(self):
        self.assertTrue(Figures(SQUARE, ZIG) == Figures(SQUARE, ZIG))
        self.assertFalse(Figures(SQUARE, ZIG) != Figures(SQUARE, ZIG))
        others = [
            Figures(ZIG, SQUARE),
            Figures(SQUARE),
            Figures(SQUARE, ZIG, ZIG),
            Figures(SQUARE, carried((0, 1, 0), ZIG)),
            (SQUARE, ZIG),
            [SQUARE, ZIG],
            None,
            2,
            "x",
            Figures,
        ]
        for other in others:
            self.assertIs(Figures(SQUARE, ZIG) == other, False)
            self.assertIs(Figures(SQUARE, ZIG) != other, True)

    def test_wrong_standings(self):
        plan = Figures(SQUARE, ZIG)
        for wrong in BAD_STANDINGS + [BAR, SAMPLES[-1]]:
            for call in (plan.fitted, plan.route, plan.barred):
                with self.assertRaises(NotUsable) as caught:
                    call(wrong)
                self.assertEqual(vars(caught.exception), {"word": "standing", "at": -1})
                with self.assertRaises(NotUsable):
                    call(standing=wrong)
        self.assertEqual(plan.table(), ((True, False), (True, True)))


if __name__ == "__main__":
    unittest.main()
