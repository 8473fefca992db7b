"""[68], [69] and [70]: nums, tests, what a rule gives for a view, the class Rule."""

import random
import unittest

from compassless.errors import InvalidRule, NotUsable
from compassless.floorclasses import Motion
from compassless.folds import class_of
from compassless.house import house_step
from compassless.meaning import names_by, step_of, way_of
from compassless.motions import carried
from compassless.numbers import number_of
from compassless.readings import read_rule
from compassless.ruleclasses import Rule
from compassless.ruletrees import HOUSE
from compassless.showing import show_rule
from compassless.truths import holds
from compassless.turns import turned
from compassless.viewwords import word_of
from tests.rulemeaning import Meaning, expected
from tests.rulesamples import WORDS, draw_num, draw_rule, draw_test
from tests.samples import BAD_STANDINGS, BAR, ELL, HUGE, LINE, SAMPLES, SQUARE, TEN, ZIG
from tests.test_viewwords import VIEWS

NAMES = (("a", 3), ("b2", -HUGE), ("so", 0))
ONE = ("num", 1)
STAY = ("stay",)
PAIR = ((-3, 7), (0, 0))


def call(function, *nums):
    return ("call", function, tuple(num if isinstance(num, tuple) else ("num", num) for num in nums))


def minus(number):
    return ("neg", ("num", number))


def draw_figure(rng, view):
    return rng.choice([None, view, rng.choice(SAMPLES)] + [s for s in SAMPLES if len(s) == len(view)])


class Numbers(unittest.TestCase):
    def told(self, num, view, names=(), figure=None):
        found = number_of(num, names, view, figure)
        self.assertIs(type(found), int)
        return found

    def test_drawn(self):
        rng = random.Random(68)
        letters = [name for name, _ in NAMES]
        for _ in range(1500):
            view = rng.choice(VIEWS)
            figure = draw_figure(rng, view)
            num = draw_num(rng, letters, 5, True)
            names = tuple(rng.sample(NAMES, 3))
            due = Meaning(names, view, figure).value(num)
            self.assertEqual(self.told(num, view, names, figure), due, (num, view))
            self.assertEqual(number_of(figure=figure, view=view, names=names, num=num), due)

    def test_leaves(self):
        for word in WORDS:
            for view in VIEWS[::7]:
                self.assertEqual(self.told(("word", word), view, (), view), word_of(word, view, view))
        self.assertEqual(self.told(("num", 999999), BAR), 999999)
        self.assertEqual(self.told(("name", "b2"), BAR, NAMES), -HUGE)

    def test_signs(self):
        self.assertEqual(self.told(("plus", ("num", 5), minus(7)), ELL), -2)
        self.assertEqual(self.told(("minus", ("num", 5), ("num", 7)), ELL), -2)
        self.assertEqual(self.told(("times", minus(5), ("num", 7)), ELL), -35)
        self.assertEqual(self.told(("neg", minus(5)), ELL), 5)

    def test_products_of_large_numbers(self):
        names = (("a", HUGE), ("b", -HUGE))
        square = ("times", ("name", "a"), ("name", "b"))
        self.assertEqual(self.told(square, ELL, names), -(10**60))
        self.assertEqual(self.told(("times", square, square), ELL, names), 10**120)
        five = ("times", ("times", square, square), ("name", "b"))
        self.assertEqual(self.told(five, ELL, names), -(10**150))
        self.assertEqual(self.told(call("seen", five, 0), ELL, names), 0)
        self.assertEqual(self.told(call("near", five), ELL, names), 0)
        self.assertEqual(self.told(("times", ("num", 999999), ("num", 999999)), ELL), 999998000001)

    def test_seen(self):
        self.assertEqual([self.told(call("seen", x, y), ELL) for x, y in ((0, 0), (1, 0), (0, 1), (1, 1))], [1, 1, 1, 0])
        self.assertEqual(self.told(call("seen", minus(3), 7), PAIR), 1)
        self.assertEqual(self.told(call("seen", 7, minus(3)), PAIR), 0)

    def test_near(self):
        # Who sees is not counted; the bound is reached.
        self.assertEqual([self.told(call("near", k), BAR) for k in range(4)], [0, 1, 2, 2])
        self.assertEqual([self.told(call("near", k), PAIR) for k in (9, 10, 11)], [0, 1, 1])
        self.assertEqual(self.told(call("near", minus(1)), BAR), 0)

    def test_box(self):
        self.assertEqual(self.told(call("box", 0, 1, 0, 1), SQUARE), 3)
        self.assertEqual(self.told(call("box", 1, 0, 0, 1), SQUARE), 0)
        self.assertEqual(self.told(call("box", 1, 1, 0, 0), SQUARE), 1)
        self.assertEqual(self.told(call("box", 0, 0, 0, 0), SQUARE), 0)
        self.assertEqual(self.told(call("box", 1, 3, 0, 1), ZIG), 3)
        self.assertEqual(self.told(call("box", 1, 3, 1, 1), ZIG), 2)
        self.assertEqual(self.told(call("box", minus(3), minus(3), 7, 7), PAIR), 1)
        self.assertEqual(self.told(call("box", 7, 7, minus(3), minus(3)), PAIR), 0)

    def test_min_max_abs(self):
        self.assertEqual(self.told(call("min", minus(2), 1), ELL), -2)
        self.assertEqual(self.told(call("max", minus(2), 1), ELL), 1)
        self.assertEqual([self.told(call("abs", k), ELL) for k in (minus(2), 2, 0)], [2, 2, 0])

    def test_deep(self):
        num, other = ONE, ("word", "far")
        for _ in range(39):
            num, other = ("neg", num), call("max", other, 1)
        self.assertEqual(self.told(num, BAR), -1)
        self.assertEqual(self.told(other, BAR), 2)


class Truths(unittest.TestCase):
    def test_drawn(self):
        rng = random.Random(69)
        letters = [name for name, _ in NAMES]
        found = set()
        for _ in range(1500):
            view = rng.choice(VIEWS)
            figure = draw_figure(rng, view)
            test = draw_test(rng, letters, 5, True)
            due = Meaning(NAMES, view, figure).value(test)
            self.assertIs(holds(test, NAMES, view, figure), due, (test, view))
            self.assertIs(holds(view=view, figure=figure, names=NAMES, test=test), due)
            found.add((test[0], due))
        self.assertEqual(len(found), 12)

    def test_comparisons(self):
        for head, due in (("eq", [False, True, False]), ("less", [True, False, False]), ("most", [True, True, False])):
            self.assertEqual([holds((head, ONE, ("num", k)), (), ELL, None) for k in (2, 1, 0)], due)

    def test_joined(self):
        yes, no = ("eq", ONE, ONE), ("less", ONE, ONE)
        for head, due in (("or", [True, True, True, False]), ("and", [True, False, False, False])):
            found = [holds((head, s, t), (), ELL, None) for s in (yes, no) for t in (yes, no)]
            self.assertEqual(found, due)
        self.assertEqual([holds(("not", test), (), ELL, None) for test in (yes, no)], [False, True])

    def test_deep(self):
        test = ("eq", ONE, ONE)
        for _ in range(38):
            test = ("not", test)
        self.assertIs(holds(test, (), BAR, BAR), True)


NOT_NAMED = [None, [], (None,), ("a",), (("a",),), (("a", 1, 2),), (["a", 1],), (("a", True),), (("a", None),)]
NOT_NAMED += [(("far", 1),), (("A", 1),), ((1, 1),), (("a", 1), ("a", 1)), (("a", 1), ("a", 2)), {"a": 1}]


class WrongNames(unittest.TestCase):
    def refused(self, word, called, *given):
        with self.assertRaises(NotUsable) as caught:
            called(*given)
        self.assertEqual(vars(caught.exception), {"word": word, "at": -1}, given)

    def test_names(self):
        for names in NOT_NAMED:
            self.refused("names", number_of, ONE, names, None, 7)
            self.refused("names", holds, ("eq", ONE, ONE), names, None, 7)

    def test_all_names_among_them(self):
        num = ("plus", ("name", "a"), ("name", "b"))
        for names in ((), (("a", 1),), (("b", 1),), (("ab", 1), ("b", 1))):
            self.refused("names", number_of, num, names, BAR, None)
            self.refused("names", holds, ("less", ONE, num), names, BAR, None)
            # Also where its worth would not be asked.
            self.refused("names", holds, ("or", ("eq", ONE, ONE), ("eq", num, ONE)), names, BAR, None)
        self.assertEqual(number_of(num, (("b", 2), ("c", 5), ("a", 1)), BAR, None), 3)
        twenty = tuple(("n" + str(k), k) for k in range(20))
        self.assertEqual(number_of(("name", "n19"), twenty, BAR, None), 19)

    def test_trees(self):
        for wrong in (None, 1, "a", (), ("eq", ONE, ONE), ("num", 10**6), ("num", -1), ("num", True), ("name", "go")):
            self.refused("num", number_of, wrong, None, None, 7)
        for wrong in (None, True, (), ONE, ("not", ONE), ("eq", ONE), ("eq", ("eq", ONE, ONE), ONE)):
            self.refused("test", holds, wrong, None, None, 7)


class Meanings(unittest.TestCase):
    def test_drawn(self):
        rng = random.Random(70)
        ways = set()
        for _ in range(1500):
            rule, view = draw_rule(rng), rng.choice(VIEWS)
            figure = draw_figure(rng, view)
            names, way, step = expected(rule, view, figure)
            self.assertEqual(names_by(rule, view, figure), names)
            self.assertEqual(way_of(rule, view, figure), way)
            self.assertEqual(step_of(rule, view, figure), step)
            self.assertEqual(step_of(figure=figure, view=view, rule=rule), step)
            ways.add((way[0], step))
        self.assertGreaterEqual(len(ways), 5 + 4 + 3, ways)

    def test_lets_in_sequence(self):
        rule = read_rule("let z = 2\nlet a = z * z\nlet b = a - z * many")
        self.assertEqual(names_by(rule, BAR, None), (("z", 2), ("a", 4), ("b", -2)))
        self.assertEqual(names_by(HOUSE, BAR, None), ())

    def test_the_first_clause(self):
        rule = read_rule("when far = 2 go east\nwhen far <= 2 go north\nelse go west")
        for view, way, step in ((BAR, ("east",), (1, 0)), (ELL, ("north",), (0, 1)), (LINE, ("west",), (-1, 0))):
            self.assertEqual(way_of(rule, view, None), way)
            self.assertEqual(step_of(rule, view, None), step)
        self.assertEqual(way_of(read_rule("when 1 = 2 go east"), BAR, None), STAY)
        self.assertEqual(step_of(read_rule(""), BAR, None), (0, 0))

    def test_along(self):
        due = {(0, 0): (0, 0), (0, 5): (0, 1), (0, -5): (0, -1), (5, 0): (1, 0), (-5, 0): (-1, 0), (3, 3): (1, 0)}
        due.update({(3, -3): (1, 0), (-3, 3): (-1, 0), (2, 3): (0, 1), (-2, -3): (0, -1), (4, 3): (1, 0)})
        due.update({(-4, 3): (-1, 0), (10, -11): (0, -1), (-1, 0): (-1, 0)})
        for (e, f), step in due.items():
            rule = read_rule(f"else go along({e}, {f})")
            self.assertEqual(step_of(rule, BAR, None), step, (e, f))

    def test_house(self):
        # The house knows figures of as many places alone.
        for view in VIEWS:
            for figure in (SQUARE, TEN, view):
                due = house_step(view, figure) if len(figure) == len(view) else (0, 0)
                self.assertEqual(step_of(HOUSE, view, figure), due)
            self.assertEqual(step_of(HOUSE, view, None), (0, 0))

    def test_done_and_figures(self):
        rule = read_rule("when done = 1 go east\nelse go north")
        self.assertEqual(step_of(rule, BAR, carried((1, 4, 4), BAR)), (1, 0))
        self.assertEqual([step_of(rule, BAR, figure) for figure in (ELL, TEN, None)], [(0, 1)] * 3)


class Frames(unittest.TestCase):
    def test_words_and_near(self):
        # [70]: these are the same in each frame; the others turn with it.
        for view in VIEWS[::3]:
            other = carried((1, 0, 0), view)
            for num in [("word", word) for word in ("many", "fold", "twins", "rank", "far", "done")] + [call("near", 4)]:
                self.assertEqual(number_of(num, (), other, ZIG), number_of(num, (), view, ZIG))
            pairs = [(number_of(("word", word), (), seen, None)) for seen in (view, other) for word in ("sumx", "sumy")]
            self.assertEqual(tuple(pairs[2:]), turned(1, tuple(pairs[:2])))

    def test_twins(self):
        for view in VIEWS[::3]:
            alone = class_of(view)[0] == "uneven" or sum(x for x, _ in view) == sum(y for _, y in view) == 0
            due = 1 if alone else number_of(("word", "fold"), (), view, None)
            self.assertEqual(number_of(("word", "twins"), (), view, None), due)

    def test_shown_and_read(self):
        rng = random.Random(71)
        for _ in range(300):
            rule = draw_rule(rng)
            self.assertEqual(read_rule(show_rule(rule)), rule)
            self.assertEqual(Rule(show_rule(rule)).told(), rule)


class Rules(unittest.TestCase):
    def test_as_the_functions(self):
        rng = random.Random(72)
        for _ in range(300):
            tree, view = draw_rule(rng), rng.choice(VIEWS)
            figure = draw_figure(rng, view)
            rule = Rule(show_rule(tree))
            self.assertEqual((rule.told(), rule.shown()), (tree, show_rule(tree)))
            self.assertEqual(rule.way(view, figure), way_of(tree, view, figure))
            self.assertEqual(rule.reckon(view, figure), step_of(tree, view, figure))
            self.assertEqual(rule.way(figure=figure, view=view), way_of(tree, view, figure))
            self.assertEqual(rule.reckon(figure=figure, view=view), step_of(tree, view, figure))
            self.assertEqual(rule.way(view), way_of(tree, view, None))
            self.assertEqual(rule.reckon(view), step_of(tree, view, None))

    def test_shown_anew(self):
        rule = Rule("let  a=(many);;when [a=3]go east;else go stay")
        self.assertEqual(rule.shown(), "let a = many\nwhen a = 3 go east")
        self.assertEqual(rule.told(), read_rule(rule.shown()))

    def test_equal(self):
        rule = Rule("else go east")
        self.assertIs(rule == Rule(text=" else  go east\n"), True)
        self.assertIs(rule != Rule("else go east"), False)
        for other in (Rule("else go west"), Rule(""), rule.told(), "else go east", None, 0, Motion(0, 0, 0)):
            self.assertIs(rule == other, False)

    def test_wrong_inputs(self):
        for wrong in (None, True, 1, ("else",), ["else go east"], HOUSE):
            self.refused("text", Rule, wrong)
        rule = Rule("else go house")
        for method in (rule.way, rule.reckon):
            for wrong in BAD_STANDINGS + [((1, 0), (2, 0))]:
                self.refused("view", method, wrong)
                self.refused("view", method, wrong, 7)
            for wrong in BAD_STANDINGS[1:]:
                self.refused("figure", method, BAR, wrong)
        self.assertEqual(rule.told(), HOUSE)

    def test_wrong_texts(self):
        for text, fields in (("else go", (0, 2, "end")), ("\nwhen b = 1 go east", (1, 1, "name")), ("?", (0, 0, "sign"))):
            with self.assertRaises(InvalidRule) as caught:
                Rule(text)
            self.assertEqual(tuple(vars(caught.exception).values()), fields)
        with self.assertRaises(InvalidRule) as caught:
            Rule("else go along(1*1*1*1*1*1, 1)")
        self.assertEqual(tuple(vars(caught.exception).values()), (-1, -1, "much"))

    refused = WrongNames.refused


if __name__ == "__main__":
    unittest.main()
