"""Turns: so many quarters against the clock about (0, 0)."""

from compassless.checks import require
from compassless.kinds import is_place, is_turn

TURNS = (0, 1, 2, 3)


def turn_pair(turn, pair):
    x, y = pair
    if turn == 0:
        return (x, y)
    if turn == 1:
        return (-y, x)
    if turn == 2:
        return (-x, -y)
    return (y, -x)


def turn_back(turn):
    """The turn that undoes this one."""
    return (4 - turn) % 4


def in_cone(pair):
    x, y = pair
    return x > 0 and -x < y <= x


def find_cone_turn(pair):
    """The one turn that brings a pair other than (0, 0) into the cone."""
    turns = [turn for turn in TURNS if in_cone(turn_pair(turn, pair))]
    return turns[0]


def turned(turn, place):
    """The place to which the turn brings the place."""
    require(is_turn(turn), "turn")
    require(is_place(place), "place")
    return turn_pair(turn, place)


def cone_turn(place):
    """The turn that brings the place, not (0, 0), into the cone."""
    require(is_place(place) and place != (0, 0), "place")
    return find_cone_turn(place)
