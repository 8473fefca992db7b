"""Stances: the hats of a held figure, turned so that a far one is in the east."""

from compassless.centres import find_centre, find_hat
from compassless.checks import require
from compassless.folds import find_class, find_fold, is_held, name_kind
from compassless.forms import find_form
from compassless.hats import find_hats
from compassless.kinds import is_large
from compassless.motions import carry
from compassless.orbittables import is_fold
from compassless.turns import find_cone_turn, turn_pair
from compassless.weights import find_far


def make_stance(turn, hats, top):
    """The stance of the hats and the first top's hat, both to be turned."""
    x, y = turn_pair(turn, top)
    if x < 0:
        x, y = -x, -y
    return (carry((turn, 0, 0), hats), (x, y))


def find_stances(figure):
    form = find_form(figure)
    twice = find_centre(form)
    hats = find_hats(twice, form)
    top = find_hat(twice, find_far(form)[-1])
    turn = find_cone_turn(top)
    stances = [make_stance(turn, hats, top)]
    if name_kind(twice) == "edge":
        stances.append(make_stance((turn + 1) % 4, hats, top))
    return tuple(stances)


def require_held_figure(figure, fold):
    """A held figure, and a fold above 1 that divides its fold."""
    require(is_large(figure) and is_held(find_class(figure)), "figure")
    require(is_fold(fold) and find_fold(figure) % fold == 0, "fold")


def stances_of(figure, fold):
    """The tuple of the stances, pairs (hats, T), for held standings of this fold."""
    require_held_figure(figure, fold)
    return find_stances(figure)
