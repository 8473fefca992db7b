"""Standings and rows: how they come of places, and their box."""

from compassless.checks import require, require_standing
from compassless.errors import InvalidPaper, NotUsable
from compassless.kinds import is_many, is_place, is_row


def find_box(places):
    xs = [x for x, _ in places]
    ys = [y for _, y in places]
    return ((min(xs), min(ys)), (max(xs), max(ys)))


def find_side(places):
    low, top = find_box(places)
    return max(top[0] - low[0], top[1] - low[1])


def standing_of(*places):
    """The standing of the places."""
    for k in range(len(places)):
        if not is_place(places[k]) or places[k] in places[:k]:
            raise NotUsable("places", k)
    require(is_many(len(places)), "places")
    return tuple(sorted(places))


def standing_by(row):
    """The standing of the row."""
    require(is_row(row), "row")
    return tuple(sorted(row))


def box_of(standing):
    """The box as two places: the least x and y, the greatest x and y."""
    require_standing(standing)
    return find_box(standing)


def side_of(standing):
    """The greater one of width and height of the box."""
    require_standing(standing)
    return find_side(standing)


def lets_row(thing):
    """The checker of rows: how many places the row has."""
    if not isinstance(thing, tuple):
        raise InvalidPaper("shape", -1)
    if not is_many(len(thing)):
        raise InvalidPaper("many", -1)
    for k in range(len(thing)):
        if not is_place(thing[k]):
            raise InvalidPaper("place", k)
        if thing[k] in thing[:k]:
            raise InvalidPaper("twice", k)
    return len(thing)
