"""The one robot that moves in an uneven standing."""

from compassless.checks import require_large_both
from compassless.folds import require_uneven
from compassless.forms import are_alike
from compassless.homes import find_top
from compassless.motions import move_place
from compassless.nears import find_near
from compassless.pictures import find_picture
from compassless.roads import sign
from compassless.standings import find_side
from compassless.steering import find_next, find_step
from compassless.turns import turn_back, turn_pair
from compassless.wants import find_want
from compassless.wished import find_wished, find_wished_y


def near_move(near, figure):
    """The move of the top of a home, one step back."""
    many, motion = near
    x, y = find_top(figure)
    start = move_place(motion, (x + many, y))
    return (start, find_step(start, move_place(motion, (x + many - 1, y))))


def picture_move(picture, figure):
    """The move in the picture of a standing that is not near."""
    _, leader, others = picture
    if find_want(picture, find_side(figure)) > 0:
        return (leader, (1, 0))
    wished = find_wished(picture, figure)
    if others != wished:
        return find_next(others[1:], wished[1:])
    return (leader, (0, sign(find_wished_y(picture, figure) - leader[1])))


def find_uneven_move(standing, figure):
    """The move on the floor, or None if the standing is alike the figure."""
    if are_alike(standing, figure):
        return None
    near = find_near(standing, figure)
    if near is not None:
        return near_move(near, figure)
    picture = find_picture(standing)
    place, step = picture_move(picture, figure)
    turn = turn_back(picture[0])
    return (turn_pair(turn, place), turn_pair(turn, step))


def uneven_move(standing, figure):
    """The move (place, step) of the one robot that moves, or None if both are alike."""
    require_large_both(standing, figure)
    require_uneven(standing)
    return find_uneven_move(standing, figure)
