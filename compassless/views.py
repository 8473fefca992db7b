"""Views: what a robot sees from its place, in a frame."""

from compassless.checks import require, require_place_in
from compassless.kinds import is_turn
from compassless.motions import carry, motion_to
from compassless.turns import TURNS


def find_view(standing, place, frame):
    return carry(motion_to(frame, place, (0, 0)), standing)


def find_views(standing, place):
    """The views from the place in all frames."""
    return [find_view(standing, place, frame) for frame in TURNS]


def view_of(standing, place, frame):
    """The view of the robot on the place in the frame."""
    require_place_in(standing, place)
    require(is_turn(frame), "frame")
    return find_view(standing, place, frame)


def lookalikes(standing, place):
    """All places from which the view, in some frame, is that from the place in frame 0."""
    require_place_in(standing, place)
    view = find_view(standing, place, 0)
    return tuple([spot for spot in standing if view in find_views(standing, spot)])
