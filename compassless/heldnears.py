"""Near held standings: those whose hats are a home of a stance."""

from compassless.centres import find_centre
from compassless.fitting import require_held_both
from compassless.folds import find_fold
from compassless.hats import find_hats
from compassless.heldhomes import find_held_home
from compassless.motions import carry
from compassless.stances import find_stances
from compassless.turns import TURNS


def home_number(fold, stance, hats):
    """The number from 1 on of the home of the stance that the hats are, or None."""
    x, y = stance[1]
    # Nothing in a home is further out than its tops, so on its line a top comes last.
    xs = [hat[0] for hat in hats if hat[1] == y]
    if xs == []:
        return None
    many = (max(xs) - x) // 2
    if many > 0 and find_held_home(fold, stance, many) == hats:
        return many
    return None


def find_near_held(standing, figure):
    """The triple (t, turn, stance) of the home that the turned hats are, or None."""
    fold = find_fold(standing)
    hats = find_hats(find_centre(standing), standing)
    stances = find_stances(figure)
    for turn in TURNS:
        spun = carry((turn, 0, 0), hats)
        for k in range(len(stances)):
            many = home_number(fold, stances[k], spun)
            if many is not None:
                return (many, turn, k)
    return None


def near_held(standing, figure):
    """The triple (t, turn, stance) if the standing is near, or None."""
    require_held_both(standing, figure)
    return find_near_held(standing, figure)
