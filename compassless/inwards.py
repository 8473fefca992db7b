"""Inward steps: nearer to a place, or round it where both ways are as long."""

from compassless.checks import require
from compassless.kinds import is_place
from compassless.turns import find_cone_turn, turn_back, turn_pair


def find_inward(place, other):
    away = (place[0] - other[0], place[1] - other[1])
    return turn_pair(turn_back(find_cone_turn(away)), (-1, 0))


def inward(place, other):
    """The step from the place that leads towards the other one."""
    require(is_place(place), "place")
    require(is_place(other) and other != place, "other")
    return find_inward(place, other)
