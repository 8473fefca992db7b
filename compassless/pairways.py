"""The ways of pairs with counters: where a robot has gone with each count of its steps."""

from compassless.folds import find_kind
from compassless.kinds import STEPS
from compassless.orbittables import doubled
from compassless.pinned import go_on
from compassless.roads import walk_round
from compassless.spans import find_sector, find_span, lies_in, require_pair, require_pairs
from compassless.turns import find_cone_turn, turn_pair


def is_inside(g, start, halves):
    """True if the way by steps of two from the start, told by its halves, lies in the sector of g."""
    return all([lies_in(g, place) for place in doubled(start, halves)])


def find_lead(g, d, step, halves):
    """The least number of such steps of both robots ahead of the way with which it lies in the sector."""
    many = 0
    while not is_inside(g, go_on(d, step, 2 * many), halves):
        many += 1
    return many


def find_pair_way(standing, figure):
    sector = find_sector(standing, figure)
    if sector is None:
        return None
    f, g = sector
    d = find_span(standing)
    step = [way for way in STEPS if lies_in(g, way)][0]
    x, y = (f[0] - d[0]) // 2, (f[1] - d[1]) // 2
    halves = walk_round((0, 0), (x, 0), (x, y))
    lead = find_lead(g, d, step, halves)
    # Out, then the way further out, then as far back.
    out = [go_on((0, 0), step, k) for k in range(lead)]
    along = [go_on(place, step, lead) for place in halves]
    back_in = [go_on((x, y), step, k) for k in range(lead - 1, -1, -1)]
    return tuple(out + along + back_in)


def find_meet_way(standing):
    if find_kind(standing) != "place":
        return None
    span = find_span(standing)
    x, y = turn_pair(find_cone_turn(span), span)
    return walk_round((0, 0), (0, -y // 2), (-x // 2, -y // 2))


def pair_way(standing, figure):
    """The sums of the steps so far, (0, 0) first; None for unlike kinds."""
    require_pairs(standing, figure)
    return find_pair_way(standing, figure)


def meet_way(standing):
    """The places on the way to the middle, (0, 0) first; None if nobody stands as for a meeting."""
    require_pair(standing)
    return find_meet_way(standing)
