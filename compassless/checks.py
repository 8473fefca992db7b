"""What the functions of the interface do first: they refuse what is not as stated.

Each of these raises NotUsable with the name of the parameter, or does nothing.
"""

from compassless.errors import NotUsable
from compassless.kinds import is_figure, is_integer, is_large, is_many, is_number
from compassless.kinds import is_place, is_row, is_standing, is_turn


def require(fine, name):
    if not fine:
        raise NotUsable(name, -1)


def require_standing(standing):
    require(is_standing(standing), "standing")


def require_row(row):
    require(is_row(row), "row")


def require_row_both(row, figure):
    """A row, and a figure of as many places."""
    require_row(row)
    require(is_figure(figure, len(row)), "figure")


def require_robot(row, robot):
    require(is_number(robot) and robot < len(row), "robot")


def require_frame(frame):
    require(is_turn(frame), "frame")


def require_number(many):
    require(is_number(many), "many")


def require_place_in(standing, place):
    """A standing, and one of its places."""
    require_standing(standing)
    # (True, 0) equals (1, 0) for Python, so the kind is asked ahead of the membership.
    require(is_place(place) and place in standing, "place")


def require_both(standing, figure):
    """A standing, and a figure of as many places."""
    require_standing(standing)
    require(is_figure(figure, len(standing)), "figure")


def require_large(standing):
    """A standing of three places or more."""
    require(is_large(standing), "standing")


def require_large_both(standing, figure):
    """A standing of three places or more, and a figure of as many."""
    require_large(standing)
    require(is_figure(figure, len(standing)), "figure")


def require_each(figures, many):
    """Standings of so many places, refused by their number."""
    for k in range(len(figures)):
        if not is_figure(figures[k], many):
            raise NotUsable("figures", k)


def require_figures(figures):
    """One standing or more, of as many places as the first one."""
    require(len(figures) > 0, "figures")
    if not is_standing(figures[0]):
        raise NotUsable("figures", 0)
    require_each(figures, len(figures[0]))


def require_many(many):
    require(is_integer(many) and is_many(many), "many")


def require_field(many, wide, high):
    """How many robots, and how wide and high the field is."""
    require_many(many)
    require(is_integer(wide) and 1 <= wide <= 12, "wide")
    require(is_integer(high) and 1 <= high <= 12, "high")
