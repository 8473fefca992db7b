"""Runs of pairs with counters."""

from compassless.checks import require
from compassless.kinds import LEAST_ROBOTS
from compassless.lots import are_lots_below
from compassless.mends import put
from compassless.pairsteps import find_counter_step, sure_meet_way, sure_pair_way
from compassless.pushes import find_goal
from compassless.turns import turn_back, turn_pair


def find_floor_step(way, g, places, counters, robot, frame):
    """The step on the floor of one of both, (0, 0) for none."""
    own, other = places[robot], places[1 - robot]
    seen = turn_pair(frame, (other[0] - own[0], other[1] - own[1]))
    return turn_pair(turn_back(frame), find_counter_step(way, g, seen, counters[robot]))


def find_next_pair(way, g, pair, lot):
    """The places and the counters behind one lot."""
    places, counters = pair
    come, counts = places, counters
    for robot, frame in lot:
        step = find_floor_step(way, g, places, counters, robot, frame)
        if step != (0, 0):
            come = put(come, robot, find_goal((places[robot], step)))
            counts = put(counts, robot, counters[robot] + 1)
    return (come, counts)


def find_pair_run(way, g, standing, lots):
    log = [(standing, (0, 0))]
    for lot in lots:
        log.append(find_next_pair(way, g, log[-1], lot))
    return tuple(log)


def require_pair_lots(lots):
    require(are_lots_below(LEAST_ROBOTS, lots), "lots")


def pair_run(standing, figure, lots):
    """The pairs (places, counters) that come by these lots, the standing with (0, 0) first."""
    way, g = sure_pair_way(standing, figure)
    require_pair_lots(lots)
    return find_pair_run(way, g, standing, lots)


def meet_run(standing, lots):
    """The same towards one place."""
    way = sure_meet_way(standing)
    require_pair_lots(lots)
    return find_pair_run(way, None, standing, lots)
