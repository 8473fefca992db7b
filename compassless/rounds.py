"""Rounds: lots in which everybody has been woken."""

from compassless.checks import require, require_many
from compassless.kinds import is_number
from compassless.lots import are_lots_below


def count_rounds(many, lots):
    rounds = 0
    woken = {}
    for lot in lots:
        for robot, _ in lot:
            woken[robot] = True
        if len(woken) == many:
            rounds += 1
            woken = {}
    return rounds


def rounds_of(many, lots):
    """How many rounds end in the lots of so many robots."""
    require_many(many)
    require(are_lots_below(many, lots), "lots")
    return count_rounds(many, lots)


def round_lots(many, rounds):
    """The lots of so many rounds: in each, robot after robot, one alone in frame 0."""
    require_many(many)
    require(is_number(rounds), "rounds")
    return tuple([((robot, 0),) for _ in range(rounds) for robot in range(many)])
