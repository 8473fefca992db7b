"""Wants of held standings: how far the leaders still have to go, before the others begin."""

from compassless.fitting import require_held_both
from compassless.folds import find_fold
from compassless.heldhomes import find_stance_body
from compassless.heldpictures import find_held_picture
from compassless.orbittables import find_orbit_table
from compassless.stances import find_stances


def halve_up(number):
    """Half the number, rounded up."""
    return (number + 1) // 2


def find_held_want(picture, stance):
    """WANT in the picture; stance is the one that the picture tells, as a pair."""
    _, leader, others, _ = picture
    x, y = leader
    widest = max([max(abs(hat[0]), abs(hat[1])) for hat in others + stance[0]])
    return max(0, halve_up(2 * widest + 4 - x), halve_up(2 * abs(y) - x))


def find_held_table(fold, picture, stance):
    return find_orbit_table(fold, picture[2], find_stance_body(fold, stance))


def held_want(standing, figure):
    """WANT of a held standing."""
    require_held_both(standing, figure)
    picture = find_held_picture(standing, figure)
    return find_held_want(picture, find_stances(figure)[picture[3]])


def held_table(standing, figure):
    """The table of the orbits of the others and those of the stance's body."""
    require_held_both(standing, figure)
    picture = find_held_picture(standing, figure)
    return find_held_table(find_fold(standing), picture, find_stances(figure)[picture[3]])
