"""Rules as trees of tuples: what is a num, a test, a way, a rule.

The trees are walked with a list of what is still to be looked at, as any value may be nested deep.
"""

from compassless.checks import require
from compassless.kinds import are_unlike, is_number
from compassless.placetexts import DIGITS

HOUSE = ("rule", (), (), ("house",))
STAY = ("stay",)

LETTERS = "abcdefghijklmnopqrstuvwxyz"
LONGEST_NAME = 12

WORDS = ("many", "fold", "twins", "rank", "far", "wide", "high", "sumx", "sumy", "done")
# How many nums each function has.
CALLS = {"seen": 2, "near": 1, "box": 4, "min": 2, "max": 2, "abs": 1}
SHORT_WAYS = ("stay", "east", "north", "west", "south", "house")
OTHER_WORDS = ("along", "let", "when", "go", "else", "or", "and", "not")

# How many nums a num, how many tests a test has; each comparison has two nums.
NUMS = {"plus": 2, "minus": 2, "times": 2, "neg": 1}
TESTS = {"or": 2, "and": 2, "not": 1}
COMPARISONS = ("eq", "less", "most")

NUM_BOUND = 1000000
MOST_LETS = 20
MOST_CLAUSES = 40
MOST_TIMES = 4
MOST_TREES = 400
MOST_DEPTH = 40


def is_language(word):
    """True if the word is one of the language."""
    return word in WORDS or word in CALLS or word in SHORT_WAYS or word in OTHER_WORDS


def is_name(thing):
    """True if thing is a name: a small letter, small letters and digits, no word of the language."""
    if not isinstance(thing, str) or thing == "" or len(thing) > LONGEST_NAME or is_language(thing):
        return False
    return thing[0] in LETTERS and all([sign in LETTERS or sign in DIGITS for sign in thing])


def is_pair(thing):
    return isinstance(thing, tuple) and len(thing) == 2


def is_headed(thing):
    """True if thing is a tuple that begins with a string."""
    return isinstance(thing, tuple) and len(thing) > 0 and isinstance(thing[0], str)


def is_leaf(names, thing):
    """True if this headed tuple is a num without parts; names is None if any names are let."""
    if len(thing) != 2:
        return False
    head, told = thing
    if head == "num":
        return is_number(told) and told < NUM_BOUND
    if head == "word":
        return told in WORDS
    return head == "name" and is_name(told) and (names is None or told in names)


def call_parts(thing):
    """The nums of this headed tuple if it is a call, or None."""
    if len(thing) != 3:
        return None
    _, function, nums = thing
    if not isinstance(function, str) or function not in CALLS:
        return None
    if not isinstance(nums, tuple) or len(nums) != CALLS[function]:
        return None
    return nums


def num_parts(names, thing):
    """The pairs (kind, part) of a headed tuple that may be a num, or None if it can be none."""
    head = thing[0]
    if head == "call":
        nums = call_parts(thing)
    elif head in NUMS:
        nums = thing[1:] if len(thing) == 1 + NUMS[head] else None
    else:
        nums = () if is_leaf(names, thing) else None
    return None if nums is None else [("num", num) for num in nums]


def test_parts(thing):
    """The pairs (kind, part) of a headed tuple that may be a test, or None if it can be none."""
    head = thing[0]
    if head in TESTS and len(thing) == 1 + TESTS[head]:
        return [("test", part) for part in thing[1:]]
    if head in COMPARISONS and len(thing) == 3:
        return [("num", part) for part in thing[1:]]
    return None


def tree_parts(names, kind, thing):
    """The pairs (kind, part) of a tree of the kind "num" or "test", or None if it can be none."""
    if not is_headed(thing):
        return None
    return num_parts(names, thing) if kind == "num" else test_parts(thing)


def survey(names, trees):
    """How many nums and tests, how many "times", how deep the deepest, in these pairs (kind, tree).

    None if one of them is no tree of its kind with names out of names.
    """
    waiting = [(kind, tree, 1) for kind, tree in trees]
    many = 0
    products = 0
    deepest = 0
    while waiting:
        kind, tree, depth = waiting.pop()
        parts = tree_parts(names, kind, tree)
        if parts is None:
            return None
        many += 1
        if tree[0] == "times":
            products += 1
        deepest = max(deepest, depth)
        waiting.extend([(other, part, depth + 1) for other, part in parts])
    return (many, products, deepest)


def are_trees(names, trees):
    """True if each of these pairs (kind, tree) is so; names is None if any names are let."""
    return survey(names, trees) is not None


def way_trees(way):
    """The pairs (kind, num) of a way, none or two; None if it can be no way."""
    if not is_headed(way):
        return None
    if way[0] == "along" and len(way) == 3:
        return [("num", num) for num in way[1:]]
    return [] if way[0] in SHORT_WAYS and len(way) == 1 else None


def are_ways(names, thing):
    """True if thing is a way with names out of names."""
    trees = way_trees(thing)
    return trees is not None and are_trees(names, trees)


def is_shaped(thing):
    """True if thing is a tuple of "rule", two tuples and one thing more."""
    if not isinstance(thing, tuple) or len(thing) != 4 or not isinstance(thing[0], str):
        return False
    return thing[0] == "rule" and isinstance(thing[1], tuple) and isinstance(thing[2], tuple)


def let_fault(lets):
    """What is wrong with the first wrong let, as a word and its number, or None."""
    names = []
    for k in range(len(lets)):
        if not is_pair(lets[k]) or not is_name(lets[k][0]):
            return ("let", k)
        name, num = lets[k]
        if name in names:
            return ("twice", k)
        if not are_trees(names, [("num", num)]):
            return ("num", k)
        names.append(name)
    return None


def clause_fault(names, clauses):
    """What is wrong with the first wrong clause, as a word and its number, or None."""
    for k in range(len(clauses)):
        if not is_pair(clauses[k]):
            return ("clause", k)
        test, way = clauses[k]
        if not are_trees(names, [("test", test)]):
            return ("test", k)
        if not are_ways(names, way):
            return ("way", k)
    return None


def rule_trees(rule):
    """The pairs (kind, tree) of all nums and tests of a rule that are part of no others."""
    _, lets, clauses, last = rule
    trees = [("num", num) for _, num in lets] + [("test", test) for test, _ in clauses]
    for way in [way for _, way in clauses] + [last]:
        trees.extend(way_trees(way))
    return trees


def is_much(rule):
    """True if a rule, but for its bounds, passes one of them."""
    many, products, deepest = survey(None, rule_trees(rule))
    if many > MOST_TREES or products > MOST_TIMES or deepest > MOST_DEPTH:
        return True
    return len(rule[1]) > MOST_LETS or len(rule[2]) > MOST_CLAUSES


def find_fault(thing):
    """The word and the number of the first thing that is wrong, or None if thing is a rule."""
    if not is_shaped(thing):
        return ("shape", -1)
    _, lets, clauses, last = thing
    fault = let_fault(lets)
    if fault is not None:
        return fault
    names = [name for name, _ in lets]
    fault = clause_fault(names, clauses)
    if fault is not None:
        return fault
    if not are_ways(names, last):
        return ("last", -1)
    return ("much", -1) if is_much(thing) else None


def require_names(names):
    fine = isinstance(names, tuple) and all([is_name(name) for name in names]) and are_unlike(names)
    require(fine, "names")


def is_num(names, thing):
    """True if thing is a num with names out of names."""
    require_names(names)
    return are_trees(names, [("num", thing)])


def is_test(names, thing):
    """True if thing is a test with names out of names."""
    require_names(names)
    return are_trees(names, [("test", thing)])


def is_way(names, thing):
    """True if thing is a way with names out of names."""
    require_names(names)
    return are_ways(names, thing)


def is_rule(thing):
    """True if thing is a rule within the bounds."""
    return find_fault(thing) is None
