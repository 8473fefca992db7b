"""Orbits: the places to which the turns of the fold bring one another."""

from compassless.centres import find_centre, turn_about
from compassless.checks import require_place_in, require_standing
from compassless.folds import find_fold, fold_turns


def spread(twice, fold, place):
    """The ascending tuple of the places to which the turns of the fold bring the place."""
    if fold == 1:
        return (place,)
    return tuple(sorted(set([turn_about(twice, turn, place) for turn in fold_turns(fold)])))


def find_orbit(standing, place):
    return spread(find_centre(standing), find_fold(standing), place)


def find_orbits(standing):
    twice = find_centre(standing)
    fold = find_fold(standing)
    return tuple(sorted(set([spread(twice, fold, place) for place in standing])))


def orbits_of(standing):
    """All orbits of the standing, ascending by their least places."""
    require_standing(standing)
    return find_orbits(standing)


def orbit_of(standing, place):
    """The orbit of the place of the standing."""
    require_place_in(standing, place)
    return find_orbit(standing, place)
