"""The fewest steps of single robots from a standing to one that is alike a figure."""

from itertools import permutations

from compassless.checks import require
from compassless.kinds import is_figure, is_standing
from compassless.leasts import find_partners
from compassless.motions import carry
from compassless.tables import find_distances
from compassless.turns import TURNS

MOST_PLACES = 6


def best_shift(places, goals):
    """How far all goals[k] must be from places[k], and the least pair to add to them for it."""
    xs = sorted([places[k][0] - goals[k][0] for k in range(len(places))])
    ys = sorted([places[k][1] - goals[k][1] for k in range(len(places))])
    # The sum of the distances to numbers is least from the one of their middle numbers to the other.
    middle = (len(places) - 1) // 2
    total = sum([abs(x - xs[middle]) for x in xs]) + sum([abs(y - ys[middle]) for y in ys])
    return (total, xs[middle], ys[middle])


def best_motion(standing, figure):
    """The least total for any motion of the figure, and the least motion for which it is."""
    found = []
    for turn in TURNS:
        spun = list(carry((turn, 0, 0), figure))
        total, a, b = min([best_shift(standing, goals) for goals in permutations(spun)])
        found.append((total, (turn, a, b)))
    return min(found)


def fewest(standing, figure):
    """The least total for any placement of the figure, the least motion, the least partners."""
    require(is_standing(standing) and len(standing) <= MOST_PLACES, "standing")
    require(is_figure(figure, len(standing)), "figure")
    total, motion = best_motion(standing, figure)
    return (total, motion, find_partners(find_distances(standing, carry(motion, figure))))
