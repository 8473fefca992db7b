"""What fits: which standings can be brought to which figures."""

from compassless.checks import require_both, require_large_both
from compassless.errors import NotFit
from compassless.folds import find_class, find_fold, find_kind, is_held, require_held
from compassless.forms import are_alike


def is_free(standing):
    """True if the standing fits every figure: it is not held, so it has three places or more."""
    return not is_held(find_class(standing))


def does_fit(standing, figure):
    if len(standing) == 2:
        return are_alike(standing, figure)
    if is_free(standing):
        return True
    _, fold, kind = find_class(standing)
    return find_fold(figure) % fold == 0 and find_kind(figure) == kind


def require_fitting(standing, figure):
    if not does_fit(standing, figure):
        raise NotFit(find_class(standing))


def require_held_both(standing, figure):
    """A held standing, and a figure that it fits."""
    require_large_both(standing, figure)
    require_held(standing)
    require_fitting(standing, figure)


def fits(standing, figure):
    """True if the standing fits the figure."""
    require_both(standing, figure)
    return does_fit(standing, figure)


def why_of(standing, figure):
    """Why the standing fits the figure or does not: a word, perhaps with its fold and kind."""
    require_both(standing, figure)
    if are_alike(standing, figure):
        return ("done",)
    if is_free(standing):
        return ("free",)
    _, fold, kind = find_class(standing)
    word = "kept" if does_fit(standing, figure) else "barred"
    return (word, fold, kind)
