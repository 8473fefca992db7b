"""What is left to do, and the most ticks in which somebody steps, for all that fit a figure."""

from compassless.checks import require_both
from compassless.fitting import require_fitting
from compassless.folds import find_class, is_held, is_pinned
from compassless.forms import are_alike
from compassless.heldnears import find_near_held
from compassless.heldpictures import find_held_picture
from compassless.heldwants import find_held_table, find_held_want
from compassless.leasts import find_rests
from compassless.pinned import find_depth
from compassless.standings import find_side
from compassless.stances import find_stances
from compassless.unevenlefts import NOTHING_LEFT, find_uneven_left, find_uneven_most


def find_held_left(standing, figure, fold):
    first = 2 if fold == 2 else 3
    near = find_near_held(standing, figure)
    if near is not None:
        return (first, 0, near[0], 0, 0)
    picture = find_held_picture(standing, figure)
    stance = find_stances(figure)[picture[3]]
    total = find_rests(find_held_table(fold, picture, stance))[0]
    rest = abs(picture[1][1] - stance[1][1]) // 2
    return (first, 1, total, rest, find_held_want(picture, stance))


def find_left(standing, figure):
    if are_alike(standing, figure):
        return NOTHING_LEFT
    told = find_class(standing)
    if is_pinned(told):
        return (4, 0, find_depth(standing), 0, 0)
    if is_held(told):
        return find_held_left(standing, figure, told[1])
    return find_uneven_left(standing, figure)


def held_most(many, side, other):
    """The most ticks with steps of a held standing, before its fold is less."""
    return (many + 3) * (side + other) // 2 + 6


def grown_side(side, other):
    """The greatest side of what comes of a held standing with this side, when its fold is less."""
    return 2 * (side + other) + 3


def find_most(standing, figure):
    if are_alike(standing, figure):
        return 0
    many = len(standing)
    side = find_side(standing)
    other = find_side(figure)
    told = find_class(standing)
    if is_pinned(told):
        return side // 2 + 1 + find_uneven_most(many, side + 2, other)
    total = 0
    fold = told[1]
    # From fold 4 first fold 2 may come, and from fold 2 an uneven standing.
    while fold > 1:
        total += held_most(many, side, other)
        side = grown_side(side, other)
        fold = fold // 2
    return total + find_uneven_most(many, side, other)


def require_left(standing, figure):
    require_both(standing, figure)
    require_fitting(standing, figure)


def left_of(standing, figure):
    """The five numbers that tell what is left."""
    require_left(standing, figure)
    return find_left(standing, figure)


def most_of(standing, figure):
    """The most ticks in which somebody steps, until the figure is made."""
    require_left(standing, figure)
    return find_most(standing, figure)
