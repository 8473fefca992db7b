"""Runs: ticks one after the other, and the checker of their logs."""

from compassless.checks import require
from compassless.errors import InvalidPaper
from compassless.kinds import is_row
from compassless.lots import are_lots_below
from compassless.rulechecks import require_ruled_row
from compassless.ticks import find_tick


def find_run(row, rule, figure, lots):
    """The rows, and -1, or the robot of the clash that ends the run."""
    log = [row]
    for lot in lots:
        come, clasher = find_tick(log[-1], rule, figure, lot)
        if clasher >= 0:
            return (tuple(log), clasher)
        log.append(come)
    return (tuple(log), -1)


def require_lots(row, lots):
    require(are_lots_below(len(row), lots), "lots")


def run_of(row, rule, figure, lots):
    """The pair of the log and -1 or the robot of the clash at its end."""
    require_ruled_row(row, rule, figure)
    require_lots(row, lots)
    return find_run(row, rule, figure, lots)


def lets_log(row, rule, figure, lots, thing):
    """The checker of such logs: the last row."""
    require_ruled_row(row, rule, figure)
    require_lots(row, lots)
    if not isinstance(thing, tuple) or thing == ():
        raise InvalidPaper("shape", -1)
    log, _ = find_run(row, rule, figure, lots)
    for k in range(min(len(log), len(thing))):
        # ((True, 0), (0, 0)) equals ((1, 0), (0, 0)) for Python, but is no row.
        if not is_row(thing[k]) or thing[k] != log[k]:
            raise InvalidPaper("row", k)
    if len(thing) != len(log):
        raise InvalidPaper("end", -1)
    return log[-1]
