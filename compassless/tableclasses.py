"""Tables as objects."""

from compassless.checks import require
from compassless.leasts import find_partners, find_rests
from compassless.prices import find_prices
from compassless.tables import add_up, are_partners, is_table


class Table:
    """A table that never changes."""

    def __init__(self, *lines):
        require(is_table(lines), "lines")
        self._lines = lines

    def total(self, partners):
        """The total of the partners."""
        require(are_partners(len(self._lines), partners), "partners")
        return add_up(self._lines, partners)

    def least(self):
        """The least total."""
        return find_rests(self._lines)[0]

    def best(self):
        """The least partners."""
        return find_partners(self._lines)

    def prices(self):
        """Prices for the least partners."""
        return find_prices(self._lines, find_partners(self._lines))

    def __len__(self):
        return len(self._lines)

    def __eq__(self, other):
        return isinstance(other, Table) and self._lines == other._lines
