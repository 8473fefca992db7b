"""Roads: from a place to a place by steps, first along one axis, then along the other."""

from compassless.checks import require
from compassless.kinds import is_place, is_places


def measure(place, goal):
    return abs(place[0] - goal[0]) + abs(place[1] - goal[1])


def sign(number):
    """1, 0 or -1: the step that changes so much."""
    if number == 0:
        return 0
    return 1 if number > 0 else -1


def walk_straight(place, goal):
    """The places behind the first one, up to the goal, on the same line or column."""
    x, y = place
    dx = sign(goal[0] - x)
    dy = sign(goal[1] - y)
    return [(x + k * dx, y + k * dy) for k in range(1, measure(place, goal) + 1)]


def walk_round(place, corner, goal):
    return tuple([place] + walk_straight(place, corner) + walk_straight(corner, goal))


def find_road(place, goal):
    if place[0] <= goal[0]:
        return walk_round(place, (goal[0], place[1]), goal)
    return walk_round(place, (place[0], goal[1]), goal)


def find_other_road(place, goal):
    if place[0] <= goal[0]:
        return walk_round(place, (place[0], goal[1]), goal)
    return walk_round(place, (goal[0], place[1]), goal)


def find_last(way, places):
    known = set(places)
    for k in range(len(way) - 1, -1, -1):
        if way[k] in known:
            return k
    return None


def require_ends(place, other):
    require(is_place(place), "place")
    require(is_place(other), "other")


def distance(place, other):
    """How many steps it is from the one place to the other one."""
    require_ends(place, other)
    return measure(place, other)


def road(place, other):
    """The road from place to other: its corner has the greater x of both."""
    require_ends(place, other)
    return find_road(place, other)


def other_road(place, other):
    """The road that goes along the axes in the other sequence."""
    require_ends(place, other)
    return find_other_road(place, other)


def last_on(way, places):
    """The greatest index in way of a place that is in places, or None."""
    require(is_places(way), "way")
    require(is_places(places), "places")
    return find_last(way, places)
