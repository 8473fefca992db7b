"""The steps of pairs with counters: told by where the other one is seen, and the own counter."""

from compassless.checks import require
from compassless.kinds import is_number, is_place
from compassless.pairways import find_meet_way, find_pair_way
from compassless.spans import find_sector, find_sector_turn, require_pair, require_pairs
from compassless.turns import find_cone_turn, turn_back, turn_pair


def find_counter_step(way, g, seen, taken):
    """The step by the way; g is None if the cone is meant and no sector."""
    if taken == len(way) - 1:
        return (0, 0)
    turn = find_cone_turn(seen) if g is None else find_sector_turn(g, seen)
    here, there = way[taken], way[taken + 1]
    # The other one sees this one go as the way goes, so this one goes the other way.
    return turn_pair(turn_back(turn), (here[0] - there[0], here[1] - there[1]))


def sure_pair_way(standing, figure):
    """The way of a pair to a figure of its kind, and the g of its sector."""
    require_pairs(standing, figure)
    way = find_pair_way(standing, figure)
    require(way is not None, "figure")
    return (way, find_sector(standing, figure)[1])


def sure_meet_way(standing):
    """The way of a pair that can meet."""
    require_pair(standing)
    way = find_meet_way(standing)
    require(way is not None, "standing")
    return way


def require_taken(way, taken):
    require(is_number(taken) and taken < len(way), "taken")


def pair_step(standing, figure, seen, taken):
    """The step of a robot that sees the other one on seen and has the counter taken."""
    way, g = sure_pair_way(standing, figure)
    require(is_place(seen) and seen != (0, 0), "seen")
    require_taken(way, taken)
    return find_counter_step(way, g, seen, taken)


def meet_step(standing, seen, taken):
    """The same towards one place."""
    way = sure_meet_way(standing)
    require(is_place(seen), "seen")
    require_taken(way, taken)
    require(seen != (0, 0) or taken == len(way) - 1, "taken")
    return find_counter_step(way, None, seen, taken)
