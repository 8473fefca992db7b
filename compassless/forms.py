"""Forms: what is the same of standings that a motion carries to one another."""

from compassless.checks import require, require_standing
from compassless.kinds import is_standing
from compassless.motions import carry
from compassless.standings import find_box
from compassless.turns import TURNS


def shift_motion(turn, standing):
    """The motion with this turn behind which least x and least y are 0."""
    low, _ = find_box(carry((turn, 0, 0), standing))
    return (turn, -low[0], -low[1])


def find_placer(standing):
    motions = [shift_motion(turn, standing) for turn in TURNS]
    shapes = [carry(motion, standing) for motion in motions]
    return motions[shapes.index(min(shapes))]


def find_form(standing):
    return carry(find_placer(standing), standing)


def are_alike(standing, other):
    return find_form(standing) == find_form(other)


def find_carrier(standing, other):
    for turn in TURNS:
        spun = carry((turn, 0, 0), standing)
        # Adding a pair changes no sequence, so what comes first goes to what is first there.
        motion = (turn, other[0][0] - spun[0][0], other[0][1] - spun[0][1])
        if carry(motion, standing) == other:
            return motion
    return None


def shifted(standing):
    """The standing with one pair added, so that least x and least y are 0."""
    require_standing(standing)
    return carry(shift_motion(0, standing), standing)


def form_of(standing):
    """The least of the four standings that come by a turn and then shifting."""
    require_standing(standing)
    return find_form(standing)


def placer_of(standing):
    """The motion with the least turn that carries the standing to its form."""
    require_standing(standing)
    return find_placer(standing)


def alike(standing, other):
    """True if the forms of both are the same."""
    require_standing(standing)
    require(is_standing(other), "other")
    return are_alike(standing, other)


def carrier_of(standing, other):
    """The motion with the least turn that carries the standing to the other one, or None."""
    require_standing(standing)
    require(is_standing(other), "other")
    return find_carrier(standing, other)
