"""The rule of the house: who moves in a standing, and what a robot does that sees a view."""

from compassless.checks import require, require_both
from compassless.fitting import does_fit
from compassless.folds import find_class, is_held, is_pinned
from compassless.forms import are_alike
from compassless.heldmoves import find_held_moves
from compassless.kinds import STEPS, is_figure, is_view
from compassless.pinned import find_pinned_moves
from compassless.unevenmoves import find_uneven_move


def find_house_moves(standing, figure):
    """The moves with choice: pairs (place, steps) by ascending places."""
    if are_alike(standing, figure) or not does_fit(standing, figure):
        return ()
    told = find_class(standing)
    if is_pinned(told):
        return find_pinned_moves(standing)
    moves = find_held_moves(standing, figure) if is_held(told) else [find_uneven_move(standing, figure)]
    return tuple([(place, (step,)) for place, step in moves])


def find_house_step(view, figure):
    for place, steps in find_house_moves(view, figure):
        if place == (0, 0):
            # More than one step is free only to the robot on the centre, which takes the first.
            return [step for step in STEPS if step in steps][0]
    return (0, 0)


def house_moves(standing, figure):
    """The moves of the rule of the house with choice."""
    require_both(standing, figure)
    return find_house_moves(standing, figure)


def house_step(view, figure):
    """The step of the robot on (0, 0) as seen in the view, (0, 0) for none."""
    require(is_view(view), "view")
    require(is_figure(figure, len(view)), "figure")
    return find_house_step(view, figure)
