"""Hats: places as seen from the centre, doubled."""

from compassless.centres import find_centre, find_hat, find_sum, find_under
from compassless.checks import require, require_place_in, require_standing
from compassless.errors import NoCentre
from compassless.kinds import is_place


def sure_centre(standing):
    """Twice the centre of a standing that must have one."""
    twice = find_centre(standing)
    if twice is None:
        raise NoCentre(find_sum(standing))
    return twice


def find_hats(twice, standing):
    # Places that ascend have hats that ascend.
    return tuple([find_hat(twice, place) for place in standing])


def hat_of(standing, place):
    """The hat of the place of the standing."""
    require_place_in(standing, place)
    return find_hat(sure_centre(standing), place)


def hats_of(standing):
    """The ascending tuple of the hats of all places."""
    require_standing(standing)
    return find_hats(sure_centre(standing), standing)


def place_by(standing, hat):
    """The place that has this hat; perhaps nobody stands there."""
    require_standing(standing)
    twice = sure_centre(standing)
    require(is_place(hat), "hat")
    place = find_under(twice, hat)
    require(place is not None, "hat")
    return place
