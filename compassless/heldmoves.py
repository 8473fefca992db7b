"""The robots that move in a held standing: one whole orbit."""

from compassless.centres import find_centre, find_under
from compassless.fitting import require_held_both
from compassless.folds import find_fold, fold_turns
from compassless.forms import are_alike
from compassless.heldhomes import find_stance_body
from compassless.heldnears import find_near_held
from compassless.heldpictures import find_held_picture
from compassless.heldwants import find_held_want
from compassless.orbittables import find_leaver
from compassless.roads import sign
from compassless.stances import find_stances
from compassless.turns import turn_back, turn_pair


def near_leaver(near, figure):
    """The turn of the picture of a near standing, a hat that moves in it, and its step."""
    many, turn, number = near
    x, y = find_stances(figure)[number][1]
    return (turn, (x + 2 * many, y), (-1, 0))


def picture_leaver(standing, figure):
    """The turn of the picture, a hat that moves in it, and its step, in a standing that is not near."""
    picture = find_held_picture(standing, figure)
    turn, leader, others, number = picture
    stance = find_stances(figure)[number]
    if find_held_want(picture, stance) > 0:
        return (turn, leader, (1, 0))
    fold = find_fold(standing)
    leaver = find_leaver(fold, others, find_stance_body(fold, stance))
    if leaver is None:
        return (turn, leader, (0, sign(stance[1][1] - leader[1])))
    hat, goal = leaver
    # A way of two in the hats is one step.
    return (turn, hat, ((goal[0] - hat[0]) // 2, (goal[1] - hat[1]) // 2))


def floor_moves(standing, turn, hat, step):
    """The moves on the floor of the orbit of a hat of the picture, ascending."""
    twice = find_centre(standing)
    moves = []
    for own in fold_turns(find_fold(standing)):
        # Back to the floor, and there on to the next one of the orbit.
        whole = (turn_back(turn) + own) % 4
        moves.append((find_under(twice, turn_pair(whole, hat)), turn_pair(whole, step)))
    return tuple(sorted(moves))


def find_held_moves(standing, figure):
    if are_alike(standing, figure):
        return ()
    near = find_near_held(standing, figure)
    if near is not None:
        turn, hat, step = near_leaver(near, figure)
    else:
        turn, hat, step = picture_leaver(standing, figure)
    return floor_moves(standing, turn, hat, step)


def held_moves(standing, figure):
    """The moves (place, step) by ascending places; () if the standing is alike the figure."""
    require_held_both(standing, figure)
    return find_held_moves(standing, figure)
