"""Steering: robots led to goals, one step of one robot after the other, nobody in the way."""

from compassless.checks import require
from compassless.kinds import is_figure, is_standing
from compassless.leasts import find_partners
from compassless.pushes import push_all
from compassless.roads import find_last, find_road
from compassless.tables import MOST_LINES, find_distances


def find_step(place, goal):
    """What leads from the place to the goal."""
    return (goal[0] - place[0], goal[1] - place[1])


def last_move(way, places):
    """The move of the last one on the way: where nobody stands behind it."""
    at = find_last(way, places)
    return (way[at], find_step(way[at], way[at + 1]))


def find_next(places, goals):
    """The next move (place, step) to the goals, both ascending, or None if they are reached."""
    if places == goals:
        return None
    partners = find_partners(find_distances(places, goals))
    free = [goal for goal in goals if goal not in places]
    start = places[partners.index(goals.index(free[0]))]
    return last_move(find_road(start, free[0]), places)


def require_goals(standing, goals):
    require(is_standing(standing) and len(standing) <= MOST_LINES, "standing")
    require(is_figure(goals, len(standing)), "goals")


def next_move(standing, goals):
    """The pair of a place and a step that leads towards the goals, or None."""
    require_goals(standing, goals)
    return find_next(standing, goals)


def steered(standing, goals):
    """The tuple of all moves from the standing to the goals."""
    require_goals(standing, goals)
    moves = []
    while standing != goals:
        move = find_next(standing, goals)
        moves.append(move)
        standing = push_all(standing, [move])
    return tuple(moves)
