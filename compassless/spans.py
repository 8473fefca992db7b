"""Pairs: their spans, and sectors: the quarter of all places that lies against the clock from a place."""

from compassless.checks import require
from compassless.folds import find_kind
from compassless.kinds import LEAST_ROBOTS, is_figure, is_place
from compassless.orbittables import are_even
from compassless.turns import TURNS, turn_pair


def find_span(standing):
    return (standing[1][0] - standing[0][0], standing[1][1] - standing[0][1])


def dot(place, other):
    return place[0] * other[0] + place[1] * other[1]


def cross(place, other):
    """Above 0 if the other one is reached by less than half a turn against the clock."""
    return place[0] * other[1] - place[1] * other[0]


def lies_in(g, place):
    return dot(g, place) > 0 and cross(g, place) >= 0


def find_sector_turn(g, place):
    turns = [turn for turn in TURNS if lies_in(g, turn_pair(turn, place))]
    return turns[0]


def find_sector(standing, figure):
    """The pair (f, g), or None for unlike kinds."""
    if find_kind(standing) != find_kind(figure):
        return None
    d = find_span(standing)
    spun = [turn_pair(turn, find_span(figure)) for turn in TURNS]
    f = [span for span in spun if are_even(span, d) and dot(d, span) > 0][0]
    return (f, d if cross(d, f) >= 0 else f)


def require_pair(standing):
    """A standing of two places."""
    require(is_figure(standing, LEAST_ROBOTS), "standing")


def require_pairs(standing, figure):
    """A standing and a figure of two places."""
    require_pair(standing)
    require(is_figure(figure, LEAST_ROBOTS), "figure")


def require_g(g):
    require(is_place(g) and g != (0, 0), "g")


def span_of(standing):
    """What leads from the lesser place to the greater one."""
    require_pair(standing)
    return find_span(standing)


def sector_of(standing, figure):
    """The pair (f, g): the figure's span, turned, and what the sector begins with; or None."""
    require_pairs(standing, figure)
    return find_sector(standing, figure)


def in_sector(g, place):
    """True if the place is in the sector of g."""
    require_g(g)
    require(is_place(place), "place")
    return lies_in(g, place)


def sector_turn(g, place):
    """The one turn that brings the place, not (0, 0), into the sector of g."""
    require_g(g)
    require(is_place(place) and place != (0, 0), "place")
    return find_sector_turn(g, place)
