"""Pictures of held standings: their hats turned so that a leader is in the east."""

from compassless.centres import find_centre, find_hat
from compassless.fitting import require_held_both
from compassless.folds import find_fold
from compassless.hats import find_hats
from compassless.orbittables import are_even, spin
from compassless.stances import find_stances
from compassless.turns import find_cone_turn, turn_pair
from compassless.weights import find_leader


def find_held_picture(standing, figure):
    twice = find_centre(standing)
    hat = find_hat(twice, find_leader(standing))
    turn = find_cone_turn(hat)
    leaders = spin(find_fold(standing), hat)
    others = [turn_pair(turn, other) for other in find_hats(twice, standing) if other not in leaders]
    leader = turn_pair(turn, hat)
    fitting = [are_even(stance[1], leader) for stance in find_stances(figure)]
    return (turn, leader, tuple(sorted(others)), fitting.index(True))


def held_picture(standing, figure):
    """The quadruple (turn, L, O, stance): the turn, hats in the picture, the number of the stance."""
    require_held_both(standing, figure)
    return find_held_picture(standing, figure)
