"""The one motion between two rows."""

from compassless.checks import require
from compassless.kinds import is_row
from compassless.motions import carry_row, motion_to
from compassless.turns import TURNS


def match_rows(row, other):
    for turn in TURNS:
        motion = motion_to(turn, row[0], other[0])
        if carry_row(motion, row) == other:
            return motion
    return None


def motion_of(row, other):
    """The motion that carries row[i] to other[i] for each i, or None."""
    require(is_row(row), "row")
    require(is_row(other), "other")
    return match_rows(row, other)
