"""Motions: a turn about (0, 0), then a pair that is added."""

from compassless.checks import require, require_standing
from compassless.kinds import is_motion, is_place, is_row
from compassless.turns import turn_back, turn_pair


def move_place(motion, place):
    turn, a, b = motion
    x, y = turn_pair(turn, place)
    return (x + a, y + b)


def carry_row(motion, row):
    return tuple([move_place(motion, place) for place in row])


def carry(motion, standing):
    return tuple(sorted(carry_row(motion, standing)))


def join_motions(motion, other):
    """The motion that does other first, and then motion."""
    turn, a, b = other
    x, y = move_place(motion, (a, b))
    return ((motion[0] + turn) % 4, x, y)


def undo_motion(motion):
    turn, a, b = motion
    x, y = turn_pair(turn_back(turn), (-a, -b))
    return (turn_back(turn), x, y)


def motion_to(turn, place, goal):
    """The motion with this turn that brings the place to the goal."""
    x, y = turn_pair(turn, place)
    return (turn, goal[0] - x, goal[1] - y)


def moved(motion, place):
    """The place to which the motion brings the place."""
    require(is_motion(motion), "motion")
    require(is_place(place), "place")
    return move_place(motion, place)


def behind(motion, other):
    """The motion that does other first, and then motion."""
    require(is_motion(motion), "motion")
    require(is_motion(other), "other")
    return join_motions(motion, other)


def back(motion):
    """The motion that undoes the motion."""
    require(is_motion(motion), "motion")
    return undo_motion(motion)


def carried(motion, standing):
    """The places to which the motion brings those of the standing, ascending."""
    require(is_motion(motion), "motion")
    require_standing(standing)
    return carry(motion, standing)


def carried_row(motion, row):
    """The places to which the motion brings those of the row, in its sequence."""
    require(is_motion(motion), "motion")
    require(is_row(row), "row")
    return carry_row(motion, row)
