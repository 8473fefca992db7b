"""The rule of the house for one figure, as an object."""

from compassless.checks import require
from compassless.fitting import does_fit, require_fitting
from compassless.house import find_house_moves, find_house_step
from compassless.kinds import is_figure, is_standing, is_view
from compassless.lefts import find_left, find_most


def require_as_many(standing, figure):
    require(is_figure(standing, len(figure)), "standing")


class House:
    """The rule of the house for a figure."""

    def __init__(self, figure):
        require(is_standing(figure), "figure")
        self._figure = figure

    def moves(self, standing):
        """The moves with choice."""
        require_as_many(standing, self._figure)
        return find_house_moves(standing, self._figure)

    def reckon(self, view):
        """The step of the robot on (0, 0) as seen in the view, (0, 0) for none."""
        require(is_view(view) and len(view) == len(self._figure), "view")
        return find_house_step(view, self._figure)

    def left(self, standing):
        """The five numbers that tell what is left."""
        require_as_many(standing, self._figure)
        require_fitting(standing, self._figure)
        return find_left(standing, self._figure)

    def most(self, standing):
        """The most ticks in which somebody steps, until the figure is made."""
        require_as_many(standing, self._figure)
        require_fitting(standing, self._figure)
        return find_most(standing, self._figure)

    def fitted(self, standing):
        """True if the standing fits the figure."""
        require_as_many(standing, self._figure)
        return does_fit(standing, self._figure)

    def __eq__(self, other):
        return isinstance(other, House) and self._figure == other._figure
