"""Wants: how far the leader still has to go, before the others begin."""

from compassless.checks import require, require_large
from compassless.folds import require_uneven
from compassless.kinds import is_number
from compassless.pictures import find_picture
from compassless.standings import find_side


def find_want_parts(picture, side):
    _, leader, others = picture
    own = find_side(others)
    bound = len(others) + 1 + max(own, side)
    high = max([abs(leader[1] - y) for _, y in others])
    # The others ascend, so the last one has the greatest x.
    return (own, bound, high, leader[0] - others[-1][0])


def find_want(picture, side):
    _, bound, high, ahead = find_want_parts(picture, side)
    return max(0, 5 * (bound + high) - ahead)


def require_wanting(standing, side):
    require_large(standing)
    require(is_number(side), "side")
    require_uneven(standing)


def want_parts(standing, side):
    """The quadruple (b, B, V, L.x - x1), side being that of the figure."""
    require_wanting(standing, side)
    return find_want_parts(find_picture(standing), side)


def want_of(standing, side):
    """WANT, side being that of the figure."""
    require_wanting(standing, side)
    return find_want(find_picture(standing), side)
