"""Courses: the standings that come one after the other while one robot moves at a time."""

from compassless.checks import require, require_both, require_number, require_standing
from compassless.folds import require_uneven
from compassless.forms import are_alike
from compassless.kinds import is_figure
from compassless.moving import find_single
from compassless.pushes import find_goal, push_all
from compassless.rulechecks import require_rule
from compassless.unevenmoves import find_uneven_move


def next_of(standing, rule, figure):
    """The word that ends a course at the standing and None, or "long" and the next standing."""
    single = find_single(standing, rule, figure)
    if single[0] != "one":
        return (single[0], None)
    move = single[1:]
    if find_goal(move) in standing:
        return ("clash", None)
    return ("long", push_all(standing, [move]))


def find_course(standing, rule, figure, many):
    log = [standing]
    word, come = next_of(standing, rule, figure)
    while come is not None and len(log) <= many:
        log.append(come)
        word, come = next_of(come, rule, figure)
    return (word, tuple(log))


def find_foretold(standing, figure):
    """The list of the moves of the house; the standing is uneven or alike the figure."""
    moves = []
    move = find_uneven_move(standing, figure)
    while move is not None:
        moves.append(move)
        standing = push_all(standing, [move])
        move = find_uneven_move(standing, figure)
    return moves


def require_foretold(standing, figure):
    """Two standings that are alike, or the first one uneven."""
    if not are_alike(standing, figure):
        require_uneven(standing)


def course_of(standing, rule, figure, many):
    """The word for how the course ends, and its log; it has at most many moves."""
    require_standing(standing)
    require_rule(rule)
    require(is_figure(figure, len(standing)), "figure")
    require_number(many)
    return find_course(standing, rule, figure, many)


def foretold(standing, figure):
    """The moves (place, step) of the house, in sequence, until the standing is alike the figure."""
    require_both(standing, figure)
    require_foretold(standing, figure)
    return tuple(find_foretold(standing, figure))
