"""Routes: sequences in which several figures can be made, one behind the other."""

from compassless.checks import require_each, require_standing
from compassless.fitting import does_fit
from compassless.fittables import find_fits


def find_apart(fitted):
    """The least pair of which neither fits the other one, by their table, or None."""
    for i in range(len(fitted)):
        for j in range(i + 1, len(fitted)):
            if not fitted[i][j] and not fitted[j][i]:
                return (i, j)
    return None


def line_up(fitted):
    """The least sequence of all numbers in which each one fits the next one, by their table."""
    left = list(range(len(fitted)))
    numbers = []
    while left:
        # Fitting goes on, so what comes first fits all that are left.
        firsts = [i for i in left if all([fitted[i][j] for j in left])]
        numbers.append(firsts[0])
        left = [i for i in left if i != firsts[0]]
    return tuple(numbers)


def find_route(standing, figures):
    for i in range(len(figures)):
        if not does_fit(standing, figures[i]):
            return ("start", i)
    fitted = find_fits(figures)
    apart = find_apart(fitted)
    if apart is not None:
        return ("apart", apart[0], apart[1])
    return ("way", line_up(fitted))


def route_of(standing, *figures):
    """A word, and the numbers of the figures in sequence, or what stands in the way."""
    require_standing(standing)
    require_each(figures, len(standing))
    return find_route(standing, figures)
