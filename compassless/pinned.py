"""Pinned standings: the robot on the centre leaves it, or others make room for it."""

from compassless.centres import find_centre, find_under
from compassless.checks import require_standing
from compassless.folds import require_pinned
from compassless.kinds import STEPS


def find_middle(standing):
    """The place of the centre of a pinned standing."""
    return find_under(find_centre(standing), (0, 0))


def go_on(place, step, many):
    """The place to which so many of these steps lead."""
    return (place[0] + many * step[0], place[1] + many * step[1])


def find_free(standing, step):
    """How many of these steps from the centre the first free place is away."""
    middle = find_middle(standing)
    many = 1
    while go_on(middle, step, many) in standing:
        many += 1
    return many


def find_depth(standing):
    return min([find_free(standing, step) for step in STEPS])


def find_pinned_moves(standing):
    """The moves with choice: pairs (place, steps) by ascending places."""
    middle = find_middle(standing)
    depth = find_depth(standing)
    ways = [step for step in STEPS if find_free(standing, step) == depth]
    if depth == 1:
        # In one of the four frames each free step is the east, which is asked for first.
        return ((middle, tuple(sorted(ways))),)
    return tuple(sorted([(go_on(middle, step, depth - 1), (step,)) for step in ways]))


def pinned_depth(standing):
    """The least number of equal steps from the centre to a free place."""
    require_standing(standing)
    require_pinned(standing)
    return find_depth(standing)


def pinned_moves(standing):
    """The moves with choice, as if no figure were alike."""
    require_standing(standing)
    require_pinned(standing)
    return find_pinned_moves(standing)
