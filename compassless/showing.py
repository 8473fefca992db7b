"""Showing rules: from the tree to a text with no needless blank and bracket."""

from compassless.checks import require
from compassless.ruletrees import STAY, are_trees, is_rule

SUMS = ("plus", "minus")
SUMS_AND_PRODUCTS = ("plus", "minus", "times")
COMPARED = {"eq": "=", "less": "<", "most": "<="}


def num_text(num):
    head = num[0]
    if head == "num":
        return str(num[1])
    if head == "call":
        shown = ", ".join([num_text(part) for part in num[2]])
        return f"{num[1]}({shown})"
    if head == "neg":
        return "-" + inner_num(num[1], SUMS_AND_PRODUCTS)
    if head == "times":
        return f"{inner_num(num[1], SUMS)} * {inner_num(num[2], SUMS_AND_PRODUCTS)}"
    if head in SUMS:
        sign = "+" if head == "plus" else "-"
        return f"{num_text(num[1])} {sign} {inner_num(num[2], SUMS)}"
    return num[1]


def inner_num(num, heads):
    """The text of a part, in brackets if it begins so."""
    return f"({num_text(num)})" if num[0] in heads else num_text(num)


def test_text(test):
    head = test[0]
    if head == "not":
        return "not " + inner_test(test[1], ("or", "and"))
    if head == "and":
        return inner_test(test[1], ("or",)) + " and " + inner_test(test[2], ("or", "and"))
    if head == "or":
        return test_text(test[1]) + " or " + inner_test(test[2], ("or",))
    return f"{num_text(test[1])} {COMPARED[head]} {num_text(test[2])}"


def inner_test(test, heads):
    """The text of a part, in brackets if it begins so."""
    return f"[{test_text(test)}]" if test[0] in heads else test_text(test)


def way_text(way):
    if way[0] == "along":
        return f"along({num_text(way[1])}, {num_text(way[2])})"
    return way[0]


def rule_text(rule):
    _, lets, clauses, last = rule
    lines = [f"let {name} = {num_text(num)}" for name, num in lets]
    lines.extend([f"when {test_text(test)} go {way_text(way)}" for test, way in clauses])
    if last != STAY:
        lines.append("else go " + way_text(last))
    return "\n".join(lines)


def show_num(num):
    """The text of the num; it may have any names."""
    require(are_trees(None, [("num", num)]), "num")
    return num_text(num)


def show_test(test):
    """The text of the test; it may have any names."""
    require(are_trees(None, [("test", test)]), "test")
    return test_text(test)


def show_rule(rule):
    """The text of the rule, its lines joined by newlines."""
    require(is_rule(rule), "rule")
    return rule_text(rule)
