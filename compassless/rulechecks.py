"""What the functions do first to which a rule is passed: they refuse what is not as stated."""

from compassless.checks import require, require_row, require_standing
from compassless.kinds import is_standing, is_view
from compassless.ruletrees import is_rule


def require_rule(rule):
    require(is_rule(rule), "rule")


def require_any_figure(figure):
    """None, or a standing of any number of places."""
    require(figure is None or is_standing(figure), "figure")


def require_view(view, figure):
    """A view, and None or a standing of any number of places."""
    require(is_view(view), "view")
    require_any_figure(figure)


def require_ruled_row(row, rule, figure):
    """A row, a rule, and None or a standing of any number of places."""
    require_row(row)
    require_rule(rule)
    require_any_figure(figure)


def require_ruled(standing, rule, figure):
    """A standing, a rule, and None or a standing of any number of places."""
    require_standing(standing)
    require_rule(rule)
    require_any_figure(figure)
