"""How many standings of each class a field has, counted centre by centre."""

from math import comb

from compassless.checks import require, require_field
from compassless.fittables import find_classes
from compassless.folds import UNEVEN, name_kind
from compassless.kinds import is_integer


def count_kept(many, fold, kind, cells):
    """How many standings the turns of the fold about one centre keep.

    The cells are those of the field that these turns bring to cells of the field. At most
    one is its own orbit: that of the centre. So a robot stands there exactly if one is left.
    """
    left = many % fold
    if left > 1 or left == 1 and kind != "place":
        return 0
    return comb(cells // fold, many // fold)


def reach(twice, size):
    """How far, doubled, the field goes on both sides of the centre, along one axis."""
    return min(twice, 2 * (size - 1) - twice)


def count_about(many, wide, high, twice):
    """How many standings of fold 2, and of fold 4, have this as twice their centre."""
    kind = name_kind(twice)
    x = reach(twice[0], wide)
    y = reach(twice[1], high)
    halves = count_kept(many, 2, kind, (x + 1) * (y + 1))
    if kind == "edge":
        return (halves, 0)
    least = min(x, y)
    quarters = count_kept(many, 4, kind, (least + 1) * (least + 1))
    return (halves - quarters, quarters)


def find_counts(many, wide, high):
    """A dict from each class to its count."""
    counts = {told: 0 for told in find_classes(many)}
    word = "held" if many % 2 == 0 else "pinned"
    for x in range(2 * wide - 1):
        for y in range(2 * high - 1):
            found = count_about(many, wide, high, (x, y))
            for fold, count in ((2, found[0]), (4, found[1])):
                if count > 0:
                    counts[(word, fold, name_kind((x, y)))] += count
    if UNEVEN in counts:
        counts[UNEVEN] = comb(wide * high, many) - sum(counts.values())
    return counts


def is_class(many, thing):
    """True if thing is one of the classes that standings of so many places can have."""
    # ("uneven", True, "") equals a class for Python, so the kind of the fold is asked, too.
    return thing in find_classes(many) and is_integer(thing[1])


def census(many, wide, high):
    """A tuple of pairs of a class and its count, for each of classes_by(many)."""
    require_field(many, wide, high)
    counts = find_counts(many, wide, high)
    return tuple([(told, counts[told]) for told in find_classes(many)])


def count_of(many, wide, high, told):
    """How many standings of many places in the field have this class."""
    require_field(many, wide, high)
    require(is_class(many, told), "told")
    return find_counts(many, wide, high)[told]
