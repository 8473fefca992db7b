"""Centres: told as twice the centre, so that they are whole."""

from compassless.checks import require, require_standing
from compassless.kinds import is_place, is_turn
from compassless.turns import turn_pair


def find_sum(places):
    return (sum([x for x, _ in places]), sum([y for _, y in places]))


def find_centre(standing):
    """Twice the centre, or None if there is no centre."""
    many = len(standing)
    x, y = find_sum(standing)
    if 2 * x % many != 0 or 2 * y % many != 0:
        return None
    return (2 * x // many, 2 * y // many)


def find_hat(twice, place):
    return (2 * place[0] - twice[0], 2 * place[1] - twice[1])


def find_under(twice, hat):
    """The place that has this hat, or None if it is not whole."""
    x, y = hat[0] + twice[0], hat[1] + twice[1]
    if x % 2 != 0 or y % 2 != 0:
        return None
    return (x // 2, y // 2)


def turn_about(twice, turn, place):
    """The place turned about twice the centre, or None if there is no such place."""
    return find_under(twice, turn_pair(turn, find_hat(twice, place)))


def keeps(twice, turn, standing):
    """True if the standing, turned about twice the centre, is itself again."""
    for place in standing:
        if turn_about(twice, turn, place) not in standing:
            return False
    return True


def sum_of(standing):
    """The sum of the places, a pair."""
    require_standing(standing)
    return find_sum(standing)


def twice_centre(standing):
    """Twice the centre, a pair, or None."""
    require_standing(standing)
    return find_centre(standing)


def about(twice, turn, place):
    """The place turned about the centre of which twice is twice, or None."""
    require(is_place(twice), "twice")
    require(is_turn(turn), "turn")
    require(is_place(place), "place")
    return turn_about(twice, turn, place)


def kept_by(standing, turn):
    """True if the standing, turned about its centre, is itself again."""
    require_standing(standing)
    require(is_turn(turn), "turn")
    if turn == 0:
        return True
    twice = find_centre(standing)
    return twice is not None and keeps(twice, turn, standing)
