"""Moves: several robots that step at once."""

from compassless.checks import require, require_standing
from compassless.errors import Blocked
from compassless.kinds import is_place, is_step


def is_move(thing):
    """True if thing is a pair of a place and a step."""
    return isinstance(thing, tuple) and len(thing) == 2 and is_place(thing[0]) and is_step(thing[1])


def is_moves(standing, thing):
    """True if thing is a tuple of moves of places of the standing, ascending by their places."""
    if not isinstance(thing, tuple) or not all([is_move(item) for item in thing]):
        return False
    starts = [place for place, _ in thing]
    return starts == [place for place in standing if place in starts]


def find_goal(move):
    place, step = move
    return (place[0] + step[0], place[1] + step[1])


def push_all(standing, moves):
    goals = [find_goal(move) for move in moves]
    for k in range(len(moves)):
        if goals[k] in standing or goals.count(goals[k]) > 1:
            raise Blocked(moves[k][0])
    starts = [place for place, _ in moves]
    return tuple(sorted([place for place in standing if place not in starts] + goals))


def after_moves(standing, moves):
    """The standing that comes if all these moves are done at once."""
    require_standing(standing)
    require(is_moves(standing, moves), "moves")
    return push_all(standing, moves)
