"""Reach: all stands that can come, from the stand of a row on."""

from compassless.checks import require
from compassless.errors import TooMany
from compassless.kinds import is_integer
from compassless.nexts import find_nexts, require_judged, stands_of
from compassless.stands import MOST_JUDGED, find_stand


def find_reach(row, rule, figure, limit):
    """A dict from each stand that can come to its outcomes, pairs (lot, stand or None)."""
    reach = {}
    waiting = [find_stand(row)]
    known = {waiting[0]: True}
    while waiting != []:
        stand = waiting.pop()
        reach[stand] = find_nexts(stand, rule, figure)
        for come in stands_of(reach[stand]):
            if come not in known:
                known[come] = True
                waiting.append(come)
        if len(known) > limit:
            raise TooMany(limit)
    return reach


def require_reach(row, rule, figure, limit):
    require_judged(row, rule, figure, MOST_JUDGED)
    require(is_integer(limit) and limit >= 1, "limit")


def reach_of(row, rule, figure, limit):
    """The ascending tuple of all stands that can come, that of the row among them."""
    require_reach(row, rule, figure, limit)
    return tuple(sorted(list(find_reach(row, rule, figure, limit))))
