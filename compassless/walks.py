"""Walks: the standings that come one after the other from an uneven one."""

from compassless.checks import require, require_large_both
from compassless.folds import require_uneven
from compassless.forms import are_alike
from compassless.kinds import is_number
from compassless.pushes import push_all
from compassless.unevenlefts import find_uneven_left
from compassless.unevenmoves import find_uneven_move


class Walk:
    """The walk from a standing to a figure."""

    def __init__(self, standing, figure):
        require_large_both(standing, figure)
        if not are_alike(standing, figure):
            require_uneven(standing)
        self._figure = figure
        self._log = [standing]

    def now(self):
        """The present standing."""
        return self._log[-1]

    def ahead(self):
        """The move of the present standing, or None if it is alike the figure."""
        return find_uneven_move(self._log[-1], self._figure)

    def go(self, many=1):
        """Makes many moves, or fewer if the figure is reached; returns how many."""
        require(is_number(many), "many")
        for k in range(many):
            move = self.ahead()
            if move is None:
                return k
            self._log.append(push_all(self._log[-1], [move]))
        return many

    def left(self):
        """The five numbers that tell what is left."""
        return find_uneven_left(self._log[-1], self._figure)

    def done(self):
        """True if the present standing is alike the figure."""
        return are_alike(self._log[-1], self._figure)

    def told(self):
        """The tuple of all standings so far."""
        return tuple(self._log)

    def __eq__(self, other):
        return isinstance(other, Walk) and self._figure == other._figure and self._log == other._log
