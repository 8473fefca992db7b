"""[63] and [64]: nums, tests, ways and rules as trees, their bounds and their checker."""

import random
import unittest

from compassless.errors import InvalidPaper, NotUsable
from compassless.floorclasses import Motion
from compassless.rulechecker import lets_rule
from compassless.ruletrees import HOUSE, is_num, is_rule, is_test, is_way
from tests.rulesamples import CALLS, LANGUAGE, SHORT_WAYS, WORDS, draw_num, draw_rule, draw_test, draw_way
from tests.rulesamples import told_name, told_num, told_test, told_way

NAMES = ("a", "b2", "so")
ONE = ("num", 1)
SAME = ("eq", ONE, ONE)
STAY = ("stay",)

ANYTHING = [
    None,
    True,
    0,
    -7,
    "",
    "num",
    "rule",
    (),
    [],
    ((),),
    ("num",),
    ("num", 1, 1),
    ["num", 1],
    ("num", True),
    ("num", -1),
    ("num", 10**6),
    ("num", "1"),
    ("num", None),
    ("num", (1,)),
    (1, "num"),
    (["num"], 1),
    (("num",), 1),
    (None, None),
    ("Num", 1),
    ("number", 1),
    ("word", "a"),
    ("word", "east"),
    ("word", ["many"]),
    ("word", True),
    ("word",),
    ("name", "many"),
    ("name", "A"),
    ("name", ""),
    ("name", "unlet"),
    ("name", ["a"]),
    ("name", 1),
    ("name", "a", "a"),
    ("plus", ONE),
    ("plus", ONE, ONE, ONE),
    ("plus", ONE, SAME),
    ("plus", [ONE, ONE]),
    ("neg", ONE, ONE),
    ("neg",),
    ("neg", 1),
    ("neg", None),
    ("times", ONE, ("neg", ("num", True))),
    ("call", "near", ONE),
    ("call", "near", (ONE, ONE)),
    ("call", "near", [ONE]),
    ("call", "near", ()),
    ("call", "seen", (ONE,)),
    ("call", "box", (ONE, ONE, ONE)),
    ("call", "far", ()),
    ("call", ["near"], (ONE,)),
    ("call", None, ()),
    ("call", "min", (ONE, SAME)),
    ("call", "min", (ONE, 1)),
    ("call", "abs", (ONE,), ()),
    ("call",),
    ("eq", ONE),
    ("eq", ONE, SAME),
    ("eq", SAME, SAME),
    ("eq", ONE, ONE, ONE),
    ("less", ONE, 1),
    ("most", [ONE], ONE),
    ("not", ONE),
    ("not", SAME, SAME),
    ("not",),
    ("or", SAME),
    ("or", SAME, ONE),
    ("and", SAME, SAME, SAME),
    ("and", SAME, [SAME]),
    ("along", ONE),
    ("along", ONE, SAME),
    ("along", ONE, ONE, ONE),
    ("along", (ONE, ONE)),
    ("along",),
    ("stay", ONE),
    ("stay", None),
    ["stay"],
    "stay",
    ("go",),
    ("east", "east"),
    (("east",),),
    Motion(0, 0, 0),
    ("neg", Motion(0, 0, 0)),
    ("rule", (), ()),
    HOUSE,
]
GOOD_NUMS = [
    ("num", 0),
    ("num", 999999),
    *[("word", word) for word in WORDS],
    *[("name", name) for name in NAMES],
    ("plus", ONE, ("name", "a")),
    ("minus", ("word", "far"), ONE),
    ("times", ONE, ONE),
    ("neg", ("neg", ONE)),
    *[("call", function, (ONE,) * many) for function, many in CALLS.items()],
]
GOOD_TESTS = [SAME, ("less", ONE, ONE), ("most", ONE, ONE), ("not", SAME), ("or", SAME, SAME), ("and", SAME, SAME)]
GOOD_WAYS = [(word,) for word in SHORT_WAYS] + [("along", ONE, ("name", "so"))]


def nested(head, depth, tree=ONE):
    """The tree below so many of this head."""
    for _ in range(depth):
        tree = (head, tree)
    return tree


def mutated(rng, tree):
    """The tree with one part, anywhere, exchanged for something else."""
    if not isinstance(tree, tuple) or not tree or rng.random() < 0.25:
        return rng.choice(ANYTHING + GOOD_NUMS + GOOD_TESTS + GOOD_WAYS)
    k = rng.randrange(len(tree))
    return tree[:k] + (mutated(rng, tree[k]),) + tree[k + 1 :]


class Trees(unittest.TestCase):
    KINDS = ((is_num, told_num), (is_test, told_test), (is_way, told_way))

    def check(self, thing):
        for names in ((), NAMES, NAMES[:1]):
            for call, told in self.KINDS:
                due = told(names, thing)
                self.assertIs(call(names, thing), due, (call, names, thing))
                self.assertIs(call(thing=thing, names=names), due)

    def test_all_kinds(self):
        for call, goods in ((is_num, GOOD_NUMS), (is_test, GOOD_TESTS), (is_way, GOOD_WAYS)):
            for thing in goods:
                self.assertIs(call(NAMES, thing), True)
                self.check(thing)

    def test_any_value(self):
        for thing in ANYTHING:
            self.check(thing)
            self.assertIs(is_num(NAMES, thing), False)
            self.assertIs(is_num(NAMES, ("neg", thing)), False)
            if thing not in GOOD_WAYS:
                self.assertIs(is_test(NAMES, thing) or is_way(NAMES, thing), False, thing)

    def test_drawn_and_mutated(self):
        rng = random.Random(63)
        found = {True: 0, False: 0}
        for _ in range(1500):
            draw = rng.choice([draw_num, draw_test, draw_way])
            tree = draw(rng, NAMES, rng.randint(2, 5))
            self.check(tree)
            other = mutated(rng, tree)
            self.check(other)
            found[any(told(NAMES, other) for _, told in self.KINDS)] += 1
        self.assertGreater(min(found.values()), 100)

    def test_names_count(self):
        self.assertEqual([is_num(names, ("name", "a")) for names in ((), ("b2",), ("b2", "a"))], [False, False, True])
        self.assertIs(is_num(NAMES, ("name", "name")), False)
        for word in LANGUAGE:
            self.assertIs(is_num((), ("name", word)), False)

    def test_the_bounds_are_not_asked(self):
        products = ONE
        for _ in range(30):
            products = ("times", products, ONE)
        self.assertIs(is_num((), products), True)
        self.assertIs(is_num((), nested("neg", 88)), True)
        self.assertIs(is_num((), nested("neg", 88, None)), False)
        self.assertIs(is_test((), nested("not", 86, SAME)), True)
        self.assertIs(is_test((), nested("not", 86, ONE)), False)
        many = ONE
        for _ in range(9):
            many = ("plus", many, many)
        self.assertIs(is_num((), many), True)
        self.assertIs(is_way((), ("along", many, nested("neg", 80))), True)

    def test_wrong_names(self):
        wrong = [None, True, "a", ["a"], ("a", "a"), ("many",), ("A",), ("",), ("1a",), (None,), (("a",),), ("a", 1)]
        wrong += [(word,) for word in LANGUAGE] + [("abcdefghijklm",), ("a b",), ("a_b",), ("a\n",), Motion(0, 0, 0)]
        for names in wrong:
            for call in (is_num, is_test, is_way):
                for given in ({"names": names, "thing": ONE}, {"thing": None, "names": names}):
                    with self.assertRaises(NotUsable) as caught:
                        call(**given)
                    self.assertEqual(vars(caught.exception), {"word": "names", "at": -1}, names)

    def test_names(self):
        for name in ("a", "z9", "abcdefghijkl", "a00000000000", "letx", "n0t", "go2"):
            self.assertTrue(told_name(name))
            self.assertIs(is_num((name,), ("name", name)), True)
        twenty = tuple("n" + str(k) for k in range(20))
        self.assertIs(is_num(twenty, ("name", "n19")), True)


def rule_with(lets=(), clauses=(), last=STAY):
    return ("rule", lets, clauses, last)


class Rules(unittest.TestCase):
    def accepted(self, rule):
        self.assertIs(is_rule(rule), True)
        self.assertIs(is_rule(thing=rule), True)
        self.assertEqual(lets_rule(rule), len(rule[2]))
        self.assertEqual(lets_rule(thing=rule), len(rule[2]))

    def refused(self, word, at, thing):
        self.assertIs(is_rule(thing), False, thing)
        with self.assertRaises(InvalidPaper) as caught:
            lets_rule(thing)
        self.assertEqual(vars(caught.exception), {"word": word, "at": at}, thing)

    def test_house(self):
        self.assertEqual(HOUSE, ("rule", (), (), ("house",)))
        self.accepted(HOUSE)

    def test_drawn(self):
        rng = random.Random(64)
        for _ in range(300):
            self.accepted(draw_rule(rng))

    def test_drawn_and_mutated(self):
        # What is_rule tells, and the first word and number, by walking along the rule.
        rng = random.Random(65)
        words = set()
        for _ in range(3000):
            thing = mutated(rng, draw_rule(rng))
            fault = told_fault(thing)
            if fault is None:
                self.accepted(thing)
            else:
                self.refused(*fault, thing)
                words.add(fault[0])
        self.assertTrue(words >= {"shape", "let", "num", "clause", "test", "way", "last"}, words)

    def test_shape(self):
        for thing in ANYTHING[:-1] + [list(HOUSE), ("rules", (), (), STAY), (True, (), (), STAY)]:
            self.refused("shape", -1, thing)
        self.refused("shape", -1, ("rule", [], (), STAY))
        for thing in (("rule", (), [], STAY), ("rule", None, (), STAY), HOUSE + (STAY,), (["rule"], (), (), STAY)):
            self.refused("shape", -1, thing)

    def test_let(self):
        for let in (None, "ab", ["a", ONE], ("a",), ("a", ONE, ONE), ("far", ONE), ("A", ONE), (1, ONE), ("", ONE), ()):
            self.refused("let", 0, rule_with((let,)))
            self.refused("let", 1, rule_with((("a", ONE), let, let), (None,), None))
        self.refused("let", 0, rule_with((("abcdefghijklm", ONE),)))
        self.refused("let", 0, rule_with((([], ONE),)))

    def test_twice(self):
        self.refused("twice", 1, rule_with((("a", ONE), ("a", ONE))))
        self.refused("twice", 2, rule_with((("a", ONE), ("b", ONE), ("a", None), None)))

    def test_num(self):
        for num in (None, SAME, ("name", "a"), ("name", "b"), 1, ("plus", ("name", "a"), ONE)):
            self.refused("num", 0, rule_with((("a", num), ("b", None))))
        self.refused("num", 1, rule_with((("a", ONE), ("b", ("name", "b")))))
        self.accepted(rule_with((("a", ONE), ("b", ("name", "a")), ("c", ("plus", ("name", "a"), ("name", "b"))))))

    def test_clause(self):
        for clause in (None, [SAME, STAY], (SAME,), (SAME, STAY, STAY), (), SAME):
            self.refused("clause", 0, rule_with((), (clause,)))
            self.refused("clause", 1, rule_with((), ((SAME, STAY), clause), None))

    def test_test_and_way(self):
        self.refused("test", 0, rule_with((), ((None, None),)))
        self.refused("test", 1, rule_with((), ((SAME, STAY), (("eq", ONE, ("name", "a")), STAY))))
        self.refused("way", 0, rule_with((), ((SAME, None), (None, None)), None))
        self.refused("way", 1, rule_with((), ((SAME, STAY), (SAME, ("along", ONE, ("name", "a"))))))
        self.accepted(rule_with((("a", ONE),), ((("eq", ONE, ("name", "a")), ("along", ONE, ("name", "a"))),)))

    def test_last(self):
        for way in (None, "stay", ["stay"], ("go",), ("along", ONE), ("along", ONE, ("name", "a")), ()):
            self.refused("last", -1, rule_with((), ((SAME, STAY),), way))
        self.accepted(rule_with((("a", ONE),), (), ("along", ("name", "a"), ONE)))

    def test_lets_come_ahead_of_clauses(self):
        self.refused("num", 0, rule_with((("a", None),), (None,), None))
        self.refused("clause", 0, rule_with((("a", ONE),), (None,), None))
        self.refused("let", 0, rule_with((None,), (None,), None))


def told_fault(thing):
    if type(thing) is not tuple or len(thing) != 4 or thing[0] != "rule" or type(thing[0]) is not str:
        return "shape", -1
    if type(thing[1]) is not tuple or type(thing[2]) is not tuple:
        return "shape", -1
    names = []
    for k, let in enumerate(thing[1]):
        if type(let) is not tuple or len(let) != 2 or not told_name(let[0]):
            return "let", k
        if let[0] in names:
            return "twice", k
        if not told_num(names, let[1]):
            return "num", k
        names.append(let[0])
    for k, clause in enumerate(thing[2]):
        if type(clause) is not tuple or len(clause) != 2:
            return "clause", k
        if not told_test(names, clause[0]):
            return "test", k
        if not told_way(names, clause[1]):
            return "way", k
    return None if told_way(names, thing[3]) else ("last", -1)


class Bounds(unittest.TestCase):
    accepted = Rules.accepted
    refused = Rules.refused

    def lets(self, many, num=ONE):
        return tuple(("n" + str(k), num) for k in range(many))

    def test_lets_and_clauses(self):
        self.accepted(rule_with(self.lets(20)))
        self.refused("much", -1, rule_with(self.lets(21)))
        self.accepted(rule_with((), ((SAME, STAY),) * 40))
        self.refused("much", -1, rule_with((), ((SAME, STAY),) * 41))

    def test_times(self):
        product = ("times", ONE, ONE)
        self.accepted(rule_with(self.lets(4, product)))
        self.refused("much", -1, rule_with(self.lets(5, product)))
        two = ("times", product, ONE)
        self.accepted(rule_with((("a", two),), ((("eq", ONE, product), STAY),), ("along", ONE, product)))
        self.refused("much", -1, rule_with((("a", two),), ((("eq", two, product), STAY),)))
        self.refused("much", -1, rule_with((), ((SAME, ("along", two, two)),), ("along", product, ONE)))

    def test_parts(self):
        # Each has 40 nums: ten of them are 400.
        chain = nested("neg", 39)
        self.accepted(rule_with(self.lets(10, chain)))
        self.refused("much", -1, rule_with(self.lets(10, chain) + (("z", ONE),)))
        # 3 in each clause, 2 in each way: 40 times 5 and 200 more.
        clauses = ((SAME, ("along", ONE, ONE)),) * 40
        self.accepted(rule_with(self.lets(5, chain), clauses))
        self.refused("much", -1, rule_with(self.lets(5, chain), clauses, ("along", ONE, ONE)))
        # 13 in each of nine clauses, and 3 in the tenth, are the 120 that seven lets leave.
        six = ("call", "box", (ONE, ("word", "far"), ONE, ("call", "abs", (ONE,))))
        clauses = ((("eq", six, six), STAY),) * 9 + ((SAME, STAY),)
        self.accepted(rule_with(self.lets(7, chain), clauses))
        self.refused("much", -1, rule_with(self.lets(7, chain), clauses + ((SAME, STAY),)))

    def test_depth(self):
        self.accepted(rule_with((("a", nested("neg", 39)),)))
        self.refused("much", -1, rule_with((("a", nested("neg", 40)),)))
        self.accepted(rule_with((), ((nested("not", 38, SAME), STAY),)))
        self.refused("much", -1, rule_with((), ((nested("not", 39, SAME), STAY),)))
        self.accepted(rule_with((), ((("less", ONE, nested("neg", 38)), STAY),)))
        self.refused("much", -1, rule_with((), ((("less", nested("neg", 39), ONE), STAY),)))
        self.accepted(rule_with(last=("along", ONE, nested("neg", 39))))
        self.refused("much", -1, rule_with(last=("along", ONE, nested("neg", 40))))
        self.refused("much", -1, rule_with(clauses=((SAME, ("along", nested("neg", 85), ONE)),)))
        call = ONE
        for _ in range(39):
            call = ("call", "min", (ONE, call))
        self.accepted(rule_with((("a", call),)))
        self.refused("much", -1, rule_with((("a", ("neg", call)),)))

    def test_comes_last(self):
        much = self.lets(21)
        self.refused("clause", 0, rule_with(much, (None,)))
        self.refused("last", -1, rule_with(much, (), None))
        self.refused("twice", 21, rule_with(much + (("n0", ONE),)))


if __name__ == "__main__":
    unittest.main()
