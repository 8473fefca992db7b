"""Tables, their partners and totals."""

from compassless.checks import require
from compassless.kinds import are_unlike, is_integer, is_number, is_places
from compassless.roads import measure

MOST_LINES = 8


def is_line(many, thing):
    """True if thing is a tuple of so many numbers."""
    return isinstance(thing, tuple) and len(thing) == many and all([is_number(item) for item in thing])


def are_partners(many, thing):
    if not isinstance(thing, tuple) or len(thing) != many or not all([is_integer(item) for item in thing]):
        return False
    return sorted(thing) == list(range(many))


def is_goals(thing):
    """True if thing is a tuple of places, as many as a table may have lines, all unlike."""
    return is_places(thing) and len(thing) <= MOST_LINES and are_unlike(thing)


def add_up(table, partners):
    return sum([table[i][partners[i]] for i in range(len(table))])


def find_distances(places, goals):
    return tuple([tuple([measure(place, goal) for goal in goals]) for place in places])


def is_table(thing):
    """True if thing is a tuple of n tuples of n numbers, n from 0 to 8."""
    if not isinstance(thing, tuple) or len(thing) > MOST_LINES:
        return False
    return all([is_line(len(thing), item) for item in thing])


def is_partners(many, thing):
    """True if thing is a tuple of the numbers below many, each once."""
    require(is_number(many), "many")
    return are_partners(many, thing)


def total_of(table, partners):
    """The total of the partners."""
    require(is_table(table), "table")
    require(are_partners(len(table), partners), "partners")
    return add_up(table, partners)


def distance_table(places, goals):
    """The table of the distances of the places and the goals."""
    require(is_goals(places), "places")
    require(is_goals(goals) and len(goals) == len(places), "goals")
    return find_distances(places, goals)
