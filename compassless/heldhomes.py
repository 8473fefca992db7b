"""Homes of held figures: a stance with its tops further out."""

from compassless.checks import require
from compassless.kinds import is_number
from compassless.orbittables import spin
from compassless.stances import find_stances, require_held_figure


def find_tops(fold, stance, many):
    x, y = stance[1]
    return tuple(sorted(spin(fold, (x + 2 * many, y))))


def find_stance_body(fold, stance):
    tops = find_tops(fold, stance, 0)
    return tuple([hat for hat in stance[0] if hat not in tops])


def find_held_home(fold, stance, many):
    return tuple(sorted(find_stance_body(fold, stance) + find_tops(fold, stance, many)))


def sure_stance(figure, fold, stance):
    """The stance with this number of a held figure."""
    require_held_figure(figure, fold)
    stances = find_stances(figure)
    require(is_number(stance) and stance < len(stances), "stance")
    return stances[stance]


def tops_of(figure, fold, stance, many):
    """The tops of the stance with this number, an ascending tuple of hats."""
    found = sure_stance(figure, fold, stance)
    require(is_number(many), "many")
    return find_tops(fold, found, many)


def stance_body(figure, fold, stance):
    """The body of the stance: its hats without the tops 0."""
    return find_stance_body(fold, sure_stance(figure, fold, stance))


def held_home(figure, fold, stance, many):
    """The home with this number of the stance: its body with these tops."""
    found = sure_stance(figure, fold, stance)
    require(is_number(many), "many")
    return find_held_home(fold, found, many)
