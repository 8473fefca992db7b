"""Which figures fit which, and which classes there are."""

from compassless.checks import require, require_figures, require_many, require_standing
from compassless.fitting import does_fit
from compassless.folds import UNEVEN
from compassless.kinds import is_figure


def find_fits(figures):
    """The table of bools: the entry [i][j] is True if the figure i fits the figure j."""
    return tuple([tuple([does_fit(figure, goal) for goal in figures]) for figure in figures])


def find_classes(many):
    """All classes that standings of so many places can have, ascending."""
    found = []
    if many % 2 == 0:
        found.extend([("held", 2, kind) for kind in ("cell", "edge", "place")])
    if many % 4 == 0:
        found.extend([("held", 4, kind) for kind in ("cell", "place")])
    if many % 2 == 1:
        found.append(("pinned", 2, "place"))
    if many % 4 == 1:
        found.append(("pinned", 4, "place"))
    # Two robots are always held.
    if many > 2:
        found.append(UNEVEN)
    return tuple(found)


def fit_table(*figures):
    """The tuple of tuples of bools that tells which figure fits which."""
    require_figures(figures)
    return find_fits(figures)


def fit_both(standing, other):
    """True if each of both fits the other one."""
    require_standing(standing)
    require(is_figure(other, len(standing)), "other")
    return does_fit(standing, other) and does_fit(other, standing)


def classes_by(many):
    """The ascending tuple of all classes that standings of many places can have."""
    require_many(many)
    return find_classes(many)
