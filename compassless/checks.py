"""What the functions of the interface do first: they refuse what is not as stated.

Each of these raises NotUsable with the name of the parameter, or does nothing.
"""

from compassless.errors import NotUsable
from compassless.kinds import is_place, is_standing


def require(fine, name):
    if not fine:
        raise NotUsable(name, -1)


def require_standing(standing):
    require(is_standing(standing), "standing")


def require_place_in(standing, place):
    """A standing, and one of its places."""
    require_standing(standing)
    # (True, 0) equals (1, 0) for Python, so the kind is asked ahead of the membership.
    require(is_place(place) and place in standing, "place")
