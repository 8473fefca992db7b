"""Papers that tell why a standing does not fit a figure."""

from compassless.checks import require_both
from compassless.errors import InvalidPaper
from compassless.fitting import does_fit
from compassless.foeframes import find_frames
from compassless.folds import find_class, is_held
from compassless.kinds import is_turn
from compassless.orbits import find_orbit
from compassless.views import find_view


def is_frames(standing, thing):
    """True if thing is a tuple of as many turns as there are places."""
    return isinstance(thing, tuple) and len(thing) == len(standing) and all([is_turn(item) for item in thing])


def sees_the_same(standing, frames, k):
    """True if the robot on place k sees what the one on the least place of its orbit sees."""
    least = find_orbit(standing, standing[k])[0]
    first = standing.index(least)
    return find_view(standing, standing[k], frames[k]) == find_view(standing, least, frames[first])


def bar_paper(standing, figure):
    """The frames of the foe, or None if the standing fits the figure."""
    require_both(standing, figure)
    if does_fit(standing, figure):
        return None
    return find_frames(standing)


def lets_bar(standing, figure, thing):
    """The checker of these papers: the fold of the standing."""
    require_both(standing, figure)
    if not is_frames(standing, thing):
        raise InvalidPaper("shape", -1)
    told = find_class(standing)
    if not is_held(told):
        raise InvalidPaper("held", -1)
    for k in range(len(standing)):
        if not sees_the_same(standing, thing, k):
            raise InvalidPaper("views", k)
    if does_fit(standing, figure):
        raise InvalidPaper("fits", -1)
    return told[1]
