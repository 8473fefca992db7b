"""Whether tests hold, for a view."""

from compassless.numbers import find_number, require_tree
from compassless.rulechecks import require_view


def compare(head, first, second):
    if head == "eq":
        return first == second
    return first < second if head == "less" else first <= second


def find_truth(test, names, view, figure):
    """True or False; names is a dict from each name to its integer."""
    head = test[0]
    if head == "not":
        return not find_truth(test[1], names, view, figure)
    if head in ("or", "and"):
        first = find_truth(test[1], names, view, figure)
        # The second one is asked only where it counts.
        return first if first == (head == "or") else find_truth(test[2], names, view, figure)
    first = find_number(test[1], names, view, figure)
    return compare(head, first, find_number(test[2], names, view, figure))


def holds(test, names, view, figure):
    """True if the test holds; names are pairs (name, integer)."""
    require_tree("test", test, names)
    require_view(view, figure)
    return find_truth(test, dict(names), view, figure)
