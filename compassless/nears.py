"""Near standings: those that are alike a home of the figure."""

from compassless.checks import require_large_both
from compassless.folds import require_uneven
from compassless.forms import find_form
from compassless.homes import lead_out
from compassless.motions import carry, motion_to, undo_motion
from compassless.turns import TURNS


def find_near(standing, figure):
    """The pair (t, motion) of the home that the motion carries to the standing, or None."""
    form = find_form(figure)
    for turn in TURNS:
        spun = carry((turn, 0, 0), standing)
        # Adding a pair changes no sequence, so the tail must come first, and the top last.
        motion = motion_to(0, spun[0], form[0])
        home = carry(motion, spun)
        many = home[-1][0] - form[-1][0]
        if many > 0 and home == lead_out(form, many):
            return (many, undo_motion((turn, motion[1], motion[2])))
    return None


def near_of(standing, figure):
    """The pair (t, motion) if the standing is alike home t of the figure, t at least 1, or None."""
    require_large_both(standing, figure)
    require_uneven(standing)
    return find_near(standing, figure)
