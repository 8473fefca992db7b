"""The foe against held rows: the lots by which it keeps them from all that they do not fit."""

from compassless.checks import require, require_number, require_row, require_row_both
from compassless.foeframes import find_frames
from compassless.folds import find_kind, require_held
from compassless.kinds import is_figure
from compassless.rulechecks import require_rule
from compassless.runs import find_run


def find_row_frames(row):
    """The frames of the foe against a held row, robot by robot."""
    standing = tuple(sorted(row))
    frames = find_frames(standing)
    return [frames[standing.index(place)] for place in row]


def find_foe_lots(row, figure, many):
    frames = find_row_frames(row)
    every = tuple([(robot, frames[robot]) for robot in range(len(row))])
    lots = [every] * many
    standing = tuple(sorted(row))
    if len(row) == 2 and many > 0 and find_kind(standing) == find_kind(figure):
        # One of two that steps alone changes the kind.
        lots[0] = every[:1]
    return tuple(lots)


def foe_lots(row, figure, many):
    """A tuple of many lots against the row."""
    require_row_both(row, figure)
    require_number(many)
    require_held(tuple(sorted(row)))
    return find_foe_lots(row, figure, many)


def kept_run(row, rule, figure, many):
    """The run by these lots: the pair of the log and -1 or the robot of a clash."""
    require_row(row)
    require_rule(rule)
    require(is_figure(figure, len(row)), "figure")
    require_number(many)
    require_held(tuple(sorted(row)))
    return find_run(row, rule, figure, find_foe_lots(row, figure, many))
