"""Pictures: uneven standings turned so that the leader is in the east."""

from compassless.centres import find_sum
from compassless.checks import require_large
from compassless.folds import require_uneven
from compassless.turns import find_cone_turn, turn_pair
from compassless.weights import find_leader


def find_picture(standing):
    many = len(standing)
    x, y = find_sum(standing)
    leader = find_leader(standing)
    turn = find_cone_turn((many * leader[0] - x, many * leader[1] - y))
    others = tuple(sorted([turn_pair(turn, place) for place in standing if place != leader]))
    return (turn, turn_pair(turn, leader), others)


def picture_of(standing):
    """The triple (turn, L, O): the turn, and in the picture the leader's place and the others'."""
    require_large(standing)
    require_uneven(standing)
    return find_picture(standing)
