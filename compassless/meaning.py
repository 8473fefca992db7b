"""What a rule gives for a view: the integers of its names, a way, a step."""

from compassless.house import find_house_step
from compassless.numbers import find_number
from compassless.roads import sign
from compassless.rulechecks import require_rule, require_view
from compassless.truths import find_truth

SHORT_STEPS = {"stay": (0, 0), "east": (1, 0), "north": (0, 1), "west": (-1, 0), "south": (0, -1)}
HOUSE_WAY = ("house",)


def find_names(rule, view, figure):
    """A dict from each name that is let to its integer, in the sequence of the lets."""
    names = {}
    for name, num in rule[1]:
        names[name] = find_number(num, names, view, figure)
    return names


def find_way(rule, names, view, figure):
    """The way of the first clause whose test holds, otherwise the last one."""
    for test, way in rule[2]:
        if find_truth(test, names, view, figure):
            return way
    return rule[3]


def step_along(first, second):
    """The step along x or y by the signs of both integers, (0, 0) for none."""
    if first != 0 and abs(first) >= abs(second):
        return (sign(first), 0)
    return (0, sign(second))


def plain_step(way, names, view, figure):
    """The step of a way other than the house's."""
    if way[0] == "along":
        first, second = [find_number(num, names, view, figure) for num in way[1:]]
        return step_along(first, second)
    return SHORT_STEPS[way[0]]


def knows_house(view, figure):
    """True if the house knows the figure: it has as many places as the view."""
    return figure is not None and len(figure) == len(view)


def find_rule_step(rule, view, figure):
    names = find_names(rule, view, figure)
    way = find_way(rule, names, view, figure)
    if way != HOUSE_WAY:
        return plain_step(way, names, view, figure)
    return find_house_step(view, figure) if knows_house(view, figure) else (0, 0)


def require_reading(rule, view, figure):
    require_rule(rule)
    require_view(view, figure)


def names_by(rule, view, figure):
    """The pairs (name, integer) in the sequence of the lets."""
    require_reading(rule, view, figure)
    return tuple(find_names(rule, view, figure).items())


def way_of(rule, view, figure):
    """The way that the rule gives for the view."""
    require_reading(rule, view, figure)
    return find_way(rule, find_names(rule, view, figure), view, figure)


def step_of(rule, view, figure):
    """The step of the way, (0, 0) for none."""
    require_reading(rule, view, figure)
    return find_rule_step(rule, view, figure)
