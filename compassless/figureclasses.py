"""Several figures as one object."""

from compassless.checks import require, require_figures
from compassless.fitting import does_fit
from compassless.fittables import find_fits
from compassless.kinds import is_figure
from compassless.routes import find_route


class Figures:
    """One figure or more, all of as many places."""

    def __init__(self, *figures):
        require_figures(figures)
        self._figures = figures

    def fitted(self, standing):
        """A tuple of bools: the entry i is True if the standing fits the figure i."""
        require(is_figure(standing, len(self._figures[0])), "standing")
        return tuple([does_fit(standing, figure) for figure in self._figures])

    def route(self, standing):
        """What route_of returns for all figures."""
        require(is_figure(standing, len(self._figures[0])), "standing")
        return find_route(standing, self._figures)

    def table(self):
        """What fit_table returns for all figures."""
        return find_fits(self._figures)

    def barred(self, standing):
        """The least number of a figure that the standing does not fit, or None."""
        fitted = self.fitted(standing)
        return fitted.index(False) if False in fitted else None

    def __len__(self):
        return len(self._figures)

    def __eq__(self, other):
        return isinstance(other, Figures) and self._figures == other._figures
