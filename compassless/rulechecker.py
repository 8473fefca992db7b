"""The checker of rules."""

from compassless.errors import InvalidPaper
from compassless.ruletrees import find_fault


def lets_rule(thing):
    """How many clauses the rule has."""
    fault = find_fault(thing)
    if fault is not None:
        word, at = fault
        raise InvalidPaper(word, at)
    return len(thing[2])
