"""Verdicts: whether a rule makes the figure from a row, whatever a fair foe does, with a paper."""

from compassless.nexts import stands_of
from compassless.nopapers import all_within, awake_in, find_clash_paper, find_leaves_paper, find_ring_paper, within
from compassless.parts import find_parts
from compassless.reaches import find_reach, require_reach
from compassless.stands import is_done_row


def unwoken_in(reach, part):
    """The robots that are in no lot that stays in the part."""
    inner = awake_in(all_within(within(reach, part)))
    return [robot for robot in range(len(part[0])) if robot not in inner]


def find_level(reach, part, levels):
    """One more than the highest level that comes of the part; levels has those of the stands behind it."""
    comes = [come for stand in part for come in stands_of(reach[stand])]
    return 1 + max([levels[come] for come in comes if come in levels])


def find_marks(reach, done, parts):
    """A dict from each stand to its level and its watch."""
    levels = {}
    marks = {}
    for part in parts[::-1]:
        fine = done[part[0]]
        level = 0 if fine else find_level(reach, part, levels)
        watch = -1 if fine else unwoken_in(reach, part)[0]
        for stand in part:
            levels[stand] = level
            marks[stand] = (level, watch)
    return marks


def find_verdict(row, rule, figure, limit):
    reach = find_reach(row, rule, figure, limit)
    done = {stand: is_done_row(stand, figure) for stand in reach}
    paper = find_clash_paper(reach, done, row, rule, figure)
    if paper is None:
        paper = find_leaves_paper(reach, done, row, rule, figure)
    if paper is not None:
        return paper
    # From here on a done stand brings itself alone.
    parts = find_parts({stand: stands_of(reach[stand]) for stand in reach})
    for part in parts:
        if not done[part[0]] and unwoken_in(reach, part) == []:
            return find_ring_paper(reach, part, row, rule, figure)
    marks = find_marks(reach, done, parts)
    return ("yes", tuple([(stand, marks[stand][0], marks[stand][1]) for stand in sorted(list(reach))]))


def verdict_of(row, rule, figure, limit):
    """A paper for "yes" or for "no"."""
    require_reach(row, rule, figure, limit)
    return find_verdict(row, rule, figure, limit)
