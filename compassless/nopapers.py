"""Papers for "no": how a foe brings a clash, leaves a figure, or goes round for ever.

A reach is a dict from each stand to its outcomes, pairs (lot, stand or None). Ways are told by lots
in the frames of the stands, until they are told in those of the row.
"""

from compassless.lots import find_lessened
from compassless.nexts import find_all_steps
from compassless.stands import find_stand, find_stand_turn
from compassless.ticks import find_tick
from compassless.turns import TURNS, turn_back


def find_way(reach, start, ends):
    """The nearest of the ends, and a list of the lots that lead to it; None if none is reached."""
    ways = {start: []}
    waiting = [start]
    at = 0
    while at < len(waiting):
        stand = waiting[at]
        if stand in ends:
            return (stand, ways[stand])
        for lot, come in reach[stand]:
            if come is not None and come not in ways:
                ways[come] = ways[stand] + [lot]
                waiting.append(come)
        at += 1
    return None


def floor_lots(row, rule, figure, lots):
    """The lots, told in the frames of the stands, in the frames of the row as it runs on."""
    found = []
    for lot in lots:
        own = find_lessened(turn_back(find_stand_turn(row)), lot)
        found.append(own)
        row, _ = find_tick(row, rule, figure, own)
    return tuple(found)


def find_clash_lot(outcomes):
    """The first lot that clashes, or None."""
    lots = [lot for lot, come in outcomes if come is None]
    return lots[0] if lots != [] else None


def find_step_lot(stand, rule, figure):
    """A lot of one robot that steps, or None if nobody moves."""
    steps = find_all_steps(stand, rule, figure)
    for robot in range(len(stand)):
        for frame in TURNS:
            if steps[robot][frame] != (0, 0):
                return ((robot, frame),)
    return None


def find_ending(word, ends, reach, row, rule, figure):
    """The paper that leads to one of the ends, a dict from stands to last lots; None if there is none."""
    if ends == {}:
        return None
    stand, lots = find_way(reach, find_stand(row), ends)
    return ("no", word, floor_lots(row, rule, figure, lots + [ends[stand]]))


def find_clash_paper(reach, done, row, rule, figure):
    """The paper that leads to a clash at a stand that is not done, or None."""
    lots = {stand: find_clash_lot(reach[stand]) for stand in reach if not done[stand]}
    ends = {stand: lots[stand] for stand in lots if lots[stand] is not None}
    return find_ending("clash", ends, reach, row, rule, figure)


def find_leaves_paper(reach, done, row, rule, figure):
    """The paper that leads to a done stand in which somebody moves, or None."""
    lots = {stand: find_step_lot(stand, rule, figure) for stand in reach if done[stand]}
    ends = {stand: lots[stand] for stand in lots if lots[stand] is not None}
    return find_ending("leaves", ends, reach, row, rule, figure)


def awake_in(lots):
    """The robots that are in one of the lots, perhaps some of them twice."""
    return [robot for lot in lots for robot, _ in lot]


def within(reach, part):
    """The reach of a part alone: the outcomes that stay in it."""
    known = {stand: True for stand in part}
    return {stand: [(lot, come) for lot, come in reach[stand] if come in known] for stand in part}


def all_within(inner):
    """The lots that stay in the part with this reach."""
    return [lot for stand in inner for lot, _ in inner[stand]]


def best_lots(inner, missing):
    """For each stand with a lot that wakes one of the missing, the outcome whose lot wakes most of them."""
    found = {}
    for stand in inner:
        for lot, come in inner[stand]:
            woken = len([robot for robot in awake_in([lot]) if robot in missing])
            if woken > 0 and (stand not in found or woken > found[stand][0]):
                found[stand] = (woken, lot, come)
    return found


def go_round(inner, start):
    """Lots from the start back to it, within the part, that wake every robot."""
    here = start
    ring = []
    missing = list(range(len(start)))
    while missing != []:
        best = best_lots(inner, missing)
        stand, lots = find_way(inner, here, best)
        _, lot, here = best[stand]
        ring = ring + lots + [lot]
        missing = [robot for robot in missing if robot not in awake_in(ring)]
    return ring + find_way(inner, here, [start])[1]


def find_ring_paper(reach, part, row, rule, figure):
    """The paper that leads into the part and then round in it."""
    start, lots = find_way(reach, find_stand(row), part)
    ring = go_round(within(reach, part), start)
    every = floor_lots(row, rule, figure, lots + ring)
    return ("no", "ring", every[:len(lots)], every[len(lots):])
