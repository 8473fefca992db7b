"""Wished places: where the others shall stand in the picture, and how high the leader."""

from compassless.checks import require_large_both
from compassless.folds import require_uneven
from compassless.homes import find_body, find_top
from compassless.motions import carry, motion_to, move_place
from compassless.pictures import find_picture
from compassless.tables import find_distances


def body_motion(picture, figure):
    """The motion that brings the tail of the body to the least one of the others."""
    return motion_to(0, find_body(figure)[0], picture[2][0])


def find_wished(picture, figure):
    return carry(body_motion(picture, figure), find_body(figure))


def find_wished_y(picture, figure):
    return move_place(body_motion(picture, figure), find_top(figure))[1]


def find_wished_table(picture, figure):
    # The least one of the others stands on a wished place for good, and counts no more.
    return find_distances(picture[2][1:], find_wished(picture, figure)[1:])


def require_wishing(standing, figure):
    require_large_both(standing, figure)
    require_uneven(standing)


def wished_of(standing, figure):
    """The ascending tuple of the wished places, in the picture."""
    require_wishing(standing, figure)
    return find_wished(find_picture(standing), figure)


def wished_y(standing, figure):
    """The wished y, in the picture."""
    require_wishing(standing, figure)
    return find_wished_y(find_picture(standing), figure)


def wished_table(standing, figure):
    """The table of the distances from the others to the wished places, but for the least ones."""
    require_wishing(standing, figure)
    return find_wished_table(find_picture(standing), figure)
