"""What is left to do in an uneven standing, and the most moves that it can take."""

from compassless.checks import require, require_large_both
from compassless.folds import require_uneven
from compassless.forms import are_alike
from compassless.kinds import is_number
from compassless.leasts import find_rests
from compassless.nears import find_near
from compassless.pictures import find_picture
from compassless.standings import find_side
from compassless.wants import find_want
from compassless.wished import find_wished_table, find_wished_y

NOTHING_LEFT = (0, 0, 0, 0, 0)


def find_uneven_left(standing, figure):
    if are_alike(standing, figure):
        return NOTHING_LEFT
    near = find_near(standing, figure)
    if near is not None:
        return (1, 0, near[0], 0, 0)
    picture = find_picture(standing)
    total = find_rests(find_wished_table(picture, figure))[0]
    rest = abs(picture[1][1] - find_wished_y(picture, figure))
    return (1, 1, total, rest, find_want(picture, find_side(figure)))


def find_uneven_most(many, side, other):
    return (2 * many + 19) * (side + other) + 10 * many


def uneven_left(standing, figure):
    """The five numbers that tell what is left."""
    require_large_both(standing, figure)
    require_uneven(standing)
    return find_uneven_left(standing, figure)


def uneven_most(many, side, other):
    """The most moves from a standing of many places with this side to a figure with the other side."""
    require(is_number(many), "many")
    require(is_number(side), "side")
    require(is_number(other), "other")
    return find_uneven_most(many, side, other)
