"""Weights: how far a place is from the centre of all, and who leads."""

from compassless.centres import find_sum
from compassless.checks import require_place_in, require_standing
from compassless.forms import find_placer
from compassless.motions import move_place


def weigh(many, total, place):
    """The weight of a place of a standing of so many places with this total as its sum."""
    x = many * place[0] - total[0]
    y = many * place[1] - total[1]
    return x * x + y * y


def find_far(standing):
    total = find_sum(standing)
    found = [weigh(len(standing), total, place) for place in standing]
    most = max(found)
    return tuple([standing[k] for k in range(len(standing)) if found[k] == most])


def find_leader(standing):
    placer = find_placer(standing)
    ranked = [(move_place(placer, place), place) for place in find_far(standing)]
    return max(ranked)[1]


def weight_of(standing, place):
    """The weight of the place of the standing."""
    require_place_in(standing, place)
    return weigh(len(standing), find_sum(standing), place)


def far_ones(standing):
    """The ascending tuple of the places of the greatest weight."""
    require_standing(standing)
    return find_far(standing)


def leader_of(standing):
    """The leader: of the far ones the one that the placer brings to the greatest place."""
    require_standing(standing)
    return find_leader(standing)
