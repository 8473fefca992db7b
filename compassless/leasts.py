"""The least total of a table, and the least partners that have it."""

from compassless.checks import require
from compassless.tables import is_table


def find_rests(table):
    """For each choice of taken columns, as bits: the least total of the lines behind.

    So many columns are taken as there are lines ahead; the first entry is the least total.
    """
    size = len(table)
    every = (1 << size) - 1
    rests = [0] * (every + 1)
    for taken in range(every - 1, -1, -1):
        free = free_columns(size, taken)
        line = table[size - len(free)]
        rests[taken] = min([line[j] + rests[taken | 1 << j] for j in free])
    return rests


def free_columns(size, taken):
    return [j for j in range(size) if not taken >> j & 1]


def find_partners(table):
    rests = find_rests(table)
    size = len(table)
    taken = 0
    partners = []
    for line in table:
        # The least column with which the total can still become the least one.
        fit = [j for j in free_columns(size, taken) if line[j] + rests[taken | 1 << j] == rests[taken]]
        partners.append(fit[0])
        taken = taken | 1 << fit[0]
    return tuple(partners)


def least_total(table):
    """The least total of all partners of the table."""
    require(is_table(table), "table")
    return find_rests(table)[0]


def least_partners(table):
    """The least partners: of those with the least total the least tuple."""
    require(is_table(table), "table")
    return find_partners(table)
