"""Folds, kinds and classes of standings."""

from compassless.centres import find_centre, find_under, keeps
from compassless.checks import require_standing
from compassless.errors import NotHeld, NotPinned, NotUneven

UNEVEN = ("uneven", 1, "")


def find_fold(standing):
    twice = find_centre(standing)
    # What a quarter keeps, the half turn keeps, too.
    if twice is None or not keeps(twice, 2, standing):
        return 1
    return 4 if keeps(twice, 1, standing) else 2


def fold_turns(fold):
    """The turns of a fold above 1."""
    return (0, 2) if fold == 2 else (0, 1, 2, 3)


def name_kind(twice):
    """The kind of a standing with this as twice its centre, or None."""
    if twice is None:
        return ""
    odd = twice[0] % 2 + twice[1] % 2
    return ("place", "edge", "cell")[odd]


def find_kind(standing):
    return name_kind(find_centre(standing))


def find_class(standing):
    fold = find_fold(standing)
    if fold == 1:
        return UNEVEN
    twice = find_centre(standing)
    if find_under(twice, (0, 0)) in standing:
        return ("pinned", fold, "place")
    return ("held", fold, name_kind(twice))


def is_held(told):
    """True if this is the class of held standings."""
    return told[0] == "held"


def is_pinned(told):
    """True if this is the class of pinned standings."""
    return told[0] == "pinned"


def require_uneven(standing):
    told = find_class(standing)
    if told != UNEVEN:
        raise NotUneven(told)


def require_held(standing):
    told = find_class(standing)
    if not is_held(told):
        raise NotHeld(told)


def require_pinned(standing):
    told = find_class(standing)
    if not is_pinned(told):
        raise NotPinned(told)


def fold_of(standing):
    """The fold: 1, 2 or 4."""
    require_standing(standing)
    return find_fold(standing)


def kind_of(standing):
    """The kind of the centre, also of an uneven standing; without a centre the empty string."""
    require_standing(standing)
    return find_kind(standing)


def class_of(standing):
    """The class: a word, the fold and the kind."""
    require_standing(standing)
    return find_class(standing)
