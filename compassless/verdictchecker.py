"""The checker of verdicts."""

from compassless.errors import InvalidPaper
from compassless.kinds import is_integer, is_number, is_row
from compassless.lots import are_lots_below
from compassless.moving import find_moves
from compassless.nexts import find_nexts, require_judged, stands_of
from compassless.nopapers import awake_in
from compassless.ruletrees import is_headed
from compassless.stands import MOST_JUDGED, find_stand, is_done_row
from compassless.ticks import find_tick


def is_line(many, thing):
    """True if thing is a triple of a row of so many robots, a level and a watch."""
    if not isinstance(thing, tuple) or len(thing) != 3:
        return False
    return is_row(thing[0]) and len(thing[0]) == many and is_number(thing[1]) and is_integer(thing[2])


def are_full_lots(many, thing):
    """True if thing is a tuple of lots of robots below many, one or more in each."""
    return are_lots_below(many, thing) and () not in thing


def is_paper(many, thing):
    """True if thing is shaped as a paper for rows of so many robots."""
    if not is_headed(thing):
        return False
    if thing[0] == "yes" and len(thing) == 2:
        return isinstance(thing[1], tuple) and all([is_line(many, line) for line in thing[1]])
    if thing[0] != "no" or not is_headed(thing[1:]):
        return False
    due = {"clash": 3, "leaves": 3, "ring": 4}
    if due.get(thing[1], 0) != len(thing):
        return False
    return all([are_full_lots(many, lots) for lots in thing[2:]])


def is_marked(done, level, watch, many):
    """True if a stand may have this level and this watch."""
    if done:
        return level == 0 and watch == -1
    return level > 0 and 0 <= watch < many


def is_watched(mark, nexts, told):
    """True if what comes on the same level has the same watch, and the watch always leads further down."""
    for lot, come in nexts:
        same = come is not None and told[come][0] == mark[0]
        if same and told[come][1] != mark[1]:
            return False
        if mark[1] in awake_in([lot]) and (same or come is None):
            return False
    return True


def line_fault(stand, told, rule, figure):
    """The word for what is wrong with the line that tells of the stand, or None."""
    mark = told[stand]
    done = is_done_row(stand, figure)
    if not is_marked(done, mark[0], mark[1], len(stand)):
        return "done"
    if done and find_moves(tuple(sorted(stand)), rule, figure) != ():
        return "moves"
    nexts = find_nexts(stand, rule, figure)
    comes = stands_of(nexts)
    if not all([come in told for come in comes]):
        return "untold"
    if not all([told[come][0] <= mark[0] for come in comes]):
        return "level"
    return None if is_watched(mark, nexts, told) else "watch"


def check_yes(row, rule, figure, lines):
    stands = [find_stand(line[0]) for line in lines]
    if find_stand(row) not in stands:
        raise InvalidPaper("first", -1)
    told = {}
    for k in range(len(lines)):
        # Of several lines of one stand the first one counts.
        if stands[k] not in told:
            told[stands[k]] = lines[k][1:]
    for k in range(len(lines)):
        twice = stands[k] in stands[:k]
        word = "twice" if twice else line_fault(stands[k], told, rule, figure)
        if word is not None:
            raise InvalidPaper(word, k)


def has_end(word, ahead, behind, clashed, figure):
    """True if a paper may end with the lot between both rows."""
    done = is_done_row(ahead, figure)
    if word == "clash":
        return clashed and not done
    return done and (clashed or behind != ahead)


def run_paper(row, rule, figure, word, lots, ring):
    """The rows ahead of each lot and behind the last one, and whether that one clashes."""
    every = lots + ring
    log = [row]
    clashed = False
    for j in range(len(every)):
        come, clasher = find_tick(log[-1], rule, figure, every[j])
        clashed = clasher >= 0
        if clashed and (word == "ring" or j < len(every) - 1):
            raise InvalidPaper("clash", j)
        if j >= len(lots) and is_done_row(log[-1], figure):
            raise InvalidPaper("done", j)
        log.append(come)
    return (log, clashed)


def check_no(row, rule, figure, word, lots, ring):
    log, clashed = run_paper(row, rule, figure, word, lots, ring)
    if word != "ring":
        if lots == () or not has_end(word, log[-2], log[-1], clashed, figure):
            raise InvalidPaper("end", -1)
        return
    if find_stand(log[len(lots)]) != find_stand(log[-1]):
        raise InvalidPaper("back", -1)
    awake = awake_in(ring)
    if not all([robot in awake for robot in range(len(row))]):
        raise InvalidPaper("robots", -1)


def lets_verdict(row, rule, figure, thing):
    """The checker of verdicts: "yes" or "no"."""
    require_judged(row, rule, figure, MOST_JUDGED)
    if not is_paper(len(row), thing):
        raise InvalidPaper("shape", -1)
    if thing[0] == "yes":
        check_yes(row, rule, figure, thing[1])
    else:
        check_no(row, rule, figure, thing[1], thing[2], thing[3] if len(thing) == 4 else ())
    return thing[0]
