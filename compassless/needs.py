"""Who is needed: which robots make the moves of the house, and which ones stop it by staying asleep."""

from compassless.checks import require, require_row_both
from compassless.courses import find_foretold, require_foretold
from compassless.kinds import is_number
from compassless.pushes import find_goal


def find_workers(row, figure):
    """The robots that make the moves of the house, in their sequence."""
    places = list(row)
    workers = []
    for move in find_foretold(tuple(sorted(row)), figure):
        robot = places.index(move[0])
        places[robot] = find_goal(move)
        workers.append(robot)
    return workers


def is_robots(many, thing):
    """True if thing is an ascending tuple of robots below many."""
    if not isinstance(thing, tuple) or not all([is_number(item) and item < many for item in thing]):
        return False
    return list(thing) == sorted(set(thing))


def needed(row, figure):
    """The ascending tuple of the robots that make the moves of the house."""
    require_row_both(row, figure)
    require_foretold(tuple(sorted(row)), figure)
    return tuple(sorted(set(find_workers(row, figure))))


def stopped_at(row, figure, robots):
    """How many moves come ahead of the first one by one of these robots."""
    require_row_both(row, figure)
    require(is_robots(len(row), robots), "robots")
    require_foretold(tuple(sorted(row)), figure)
    workers = find_workers(row, figure)
    for k in range(len(workers)):
        if workers[k] in robots:
            return k
    return len(workers)
