"""Prices: what tells of partners that no others have a lesser total."""

from compassless.checks import require
from compassless.errors import InvalidPaper
from compassless.kinds import is_integer
from compassless.tables import add_up, are_partners, is_table


def is_integers(many, thing):
    """True if thing is a tuple of so many integers."""
    return isinstance(thing, tuple) and len(thing) == many and all([is_integer(item) for item in thing])


def is_prices(many, thing):
    """True if thing is a pair of tuples of so many integers."""
    return isinstance(thing, tuple) and len(thing) == 2 and all([is_integers(many, part) for part in thing])


def lower_prices(table, partners, vs):
    """The prices of the columns, no line letting any of them be more than beside its own."""
    found = list(vs)
    for i in range(len(table)):
        own = found[partners[i]] - table[i][partners[i]]
        for j in range(len(table)):
            found[j] = min(found[j], own + table[i][j])
    return found


def find_prices(table, partners):
    """Prices for the partners, or None if their total is not the least total."""
    vs = [0] * len(table)
    # A price that is lowered once more than there are lines is lowered in a ring, without end.
    for _ in range(len(table) + 1):
        found = lower_prices(table, partners, vs)
        if found == vs:
            us = [table[i][partners[i]] - vs[partners[i]] for i in range(len(table))]
            return (tuple(us), tuple(vs))
        vs = found
    return None


def require_partners(table, partners):
    require(is_table(table), "table")
    require(are_partners(len(table), partners), "partners")


def prices_of(table, partners):
    """Any prices for the partners of the table, or None if their total is not the least total."""
    require_partners(table, partners)
    return find_prices(table, partners)


def lets_prices(table, partners, thing):
    """The checker of prices: the total of the partners."""
    require_partners(table, partners)
    if not is_prices(len(table), thing):
        raise InvalidPaper("shape", -1)
    us, vs = thing
    for i in range(len(table)):
        over = [us[i] + vs[j] - table[i][j] for j in range(len(table))]
        if max(over) > 0:
            raise InvalidPaper("above", i)
        if over[partners[i]] < 0:
            raise InvalidPaper("unlike", i)
    return add_up(table, partners)
