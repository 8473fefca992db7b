"""Homes: the form of a figure, but for its top, which stands further east."""

from compassless.checks import require
from compassless.forms import find_form
from compassless.kinds import is_large, is_number


def find_top(figure):
    return find_form(figure)[-1]


def find_body(figure):
    # The top is the greatest place, so it is the last one.
    return find_form(figure)[:-1]


def lead_out(form, many):
    """The home with this number of a figure with this form."""
    x, y = form[-1]
    return form[:-1] + ((x + many, y),)


def top_of(figure):
    """The top: the greatest place of the form."""
    require(is_large(figure), "figure")
    return find_top(figure)


def body_of(figure):
    """The body: the form without the top."""
    require(is_large(figure), "figure")
    return find_body(figure)


def home_of(figure, many):
    """The home with this number: the body with the top so many steps further east."""
    require(is_large(figure), "figure")
    require(is_number(many), "many")
    return lead_out(find_form(figure), many)
