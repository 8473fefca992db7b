"""Stands: what is the same of rows that a motion carries to one another, robot by robot."""

from compassless.checks import require
from compassless.forms import are_alike, shift_motion
from compassless.kinds import LEAST_ROBOTS, is_figure, is_row
from compassless.motions import carry_row
from compassless.turns import TURNS

MOST_JUDGED = 4


def shifted_rows(row):
    """The rows that come by a turn and then shifting, in the sequence of the turns."""
    return [carry_row(shift_motion(turn, row), row) for turn in TURNS]


def find_stand(row):
    return min(shifted_rows(row))


def find_stand_turn(row):
    rows = shifted_rows(row)
    return rows.index(min(rows))


def is_done_row(row, figure):
    return are_alike(tuple(sorted(row)), figure)


def is_short_row(thing, most):
    """True if thing is a row of two robots or more, and at most so many."""
    return is_row(thing) and LEAST_ROBOTS <= len(thing) <= most


def require_short_row(row):
    require(is_short_row(row, MOST_JUDGED), "row")


def stand_of(row):
    """The least row that comes by a turn and then shifting."""
    require_short_row(row)
    return find_stand(row)


def stand_turn(row):
    """The one turn that brings the row to its stand."""
    require_short_row(row)
    return find_stand_turn(row)


def is_done(row, figure):
    """True if the standing of the row is alike the figure."""
    require_short_row(row)
    require(is_figure(figure, len(row)), "figure")
    return is_done_row(row, figure)
