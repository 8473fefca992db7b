"""What nums come to, for a view."""

from compassless.checks import require
from compassless.kinds import are_unlike, is_integer
from compassless.roads import measure
from compassless.rulechecks import require_view
from compassless.ruletrees import are_trees, is_name, is_pair
from compassless.viewwords import find_word


def find_others(view):
    """The places but (0, 0), on which the one stands who sees them."""
    return [place for place in view if place != (0, 0)]


def count_near(view, reach):
    """How many others stand at most so far away."""
    return len([place for place in find_others(view) if measure(place, (0, 0)) <= reach])


def count_in_box(view, box):
    """How many others stand between the least and greatest x, the least and greatest y."""
    low, top, bottom, peak = box
    return len([(x, y) for x, y in find_others(view) if low <= x <= top and bottom <= y <= peak])


def find_call(function, given, view):
    """What the function gives for these integers."""
    if function == "seen":
        return 1 if tuple(given) in view else 0
    if function == "near":
        return count_near(view, given[0])
    if function == "box":
        return count_in_box(view, given)
    if function == "abs":
        return abs(given[0])
    return min(given) if function == "min" else max(given)


def find_number(num, names, view, figure):
    """The integer of the num; names is a dict from each name to its integer."""
    head = num[0]
    if head == "num":
        return num[1]
    if head == "name":
        return names[num[1]]
    if head == "word":
        return find_word(num[1], view, figure)
    if head == "call":
        return find_call(num[1], [find_number(part, names, view, figure) for part in num[2]], view)
    first = find_number(num[1], names, view, figure)
    if head == "neg":
        return -first
    second = find_number(num[2], names, view, figure)
    if head == "times":
        return first * second
    return first + second if head == "plus" else first - second


def is_named(thing):
    """True if thing is a pair of a name and an integer."""
    return is_pair(thing) and is_name(thing[0]) and is_integer(thing[1])


def are_named(thing):
    """True if thing is a tuple of pairs of a name and an integer, the names all unlike."""
    if not isinstance(thing, tuple) or not all([is_named(item) for item in thing]):
        return False
    return are_unlike([name for name, _ in thing])


def require_tree(kind, tree, names):
    """A tree of the kind "num" or "test", and pairs (name, integer) with all of its names."""
    require(are_trees(None, [(kind, tree)]), kind)
    require(are_named(names), "names")
    require(are_trees([name for name, _ in names], [(kind, tree)]), "names")


def number_of(num, names, view, figure):
    """The integer that the num comes to; names are pairs (name, integer)."""
    require_tree("num", num, names)
    require_view(view, figure)
    return find_number(num, dict(names), view, figure)
