"""The frames in which the foe wakes the robots of a held standing."""

from compassless.centres import find_centre, turn_about
from compassless.checks import require_standing
from compassless.errors import NotHeld
from compassless.folds import find_class, find_fold, fold_turns, is_held
from compassless.orbits import find_orbits
from compassless.turns import turn_back


def find_frames(standing):
    """The frames against a held standing, place by place."""
    twice = find_centre(standing)
    turns = fold_turns(find_fold(standing))
    frames = {}
    for orbit in find_orbits(standing):
        for turn in turns:
            # Seen so, everybody of the orbit sees what its least one sees in frame 0.
            frames[turn_about(twice, turn, orbit[0])] = turn_back(turn)
    return tuple([frames[place] for place in standing])


def foe_frames(standing):
    """The frames of the foe: entry k is that of the robot on standing[k]."""
    require_standing(standing)
    told = find_class(standing)
    if not is_held(told):
        raise NotHeld(told)
    return find_frames(standing)
