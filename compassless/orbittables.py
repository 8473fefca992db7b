"""Kept lots: hats that the turns of a fold keep, led to goals, orbit by orbit."""

from compassless.checks import require
from compassless.folds import fold_turns
from compassless.kinds import are_unlike, is_integer, is_places
from compassless.leasts import find_partners
from compassless.roads import find_last, find_other_road, find_road, measure
from compassless.tables import MOST_LINES
from compassless.turns import turn_pair

FOLDS = (2, 4)


def is_fold(thing):
    """True if thing is a fold above 1."""
    return is_integer(thing) and thing in FOLDS


def spin(fold, hat):
    """The hat turned by each turn of the fold, in their sequence."""
    return [turn_pair(turn, hat) for turn in fold_turns(fold)]


def are_even(place, other):
    """True if both differ by even entries."""
    return (place[0] - other[0]) % 2 == 0 and (place[1] - other[1]) % 2 == 0


def keeps_turns(fold, places):
    known = set(places)
    for place in places:
        for other in spin(fold, place):
            if other not in known:
                return False
    return True


def are_kept(fold, thing):
    """True if thing is a kept lot of the fold."""
    if not is_places(thing) or not are_unlike(thing) or list(thing) != sorted(thing) or (0, 0) in thing:
        return False
    return keeps_turns(fold, thing) and all([are_even(place, thing[0]) for place in thing])


def find_orbits_about(fold, hats):
    return tuple(sorted(set([tuple(sorted(spin(fold, hat))) for hat in hats])))


def halved_way(orbit, name):
    """Half the least distance of a hat of the orbit from the name of another one."""
    return min([measure(hat, name) for hat in orbit]) // 2


def find_orbit_table(fold, hats, goals):
    orbits = find_orbits_about(fold, hats)
    names = [aim[0] for aim in find_orbits_about(fold, goals)]
    return tuple([tuple([halved_way(orbit, name) for name in names]) for orbit in orbits])


def doubled(place, way):
    """The way from the place on, each of its steps twice as long."""
    return tuple([(place[0] + 2 * x, place[1] + 2 * y) for x, y in way])


def double_road(place, goal):
    """The road by steps of two from place to goal, or, if (0, 0) is on it, the other road."""
    halves = ((goal[0] - place[0]) // 2, (goal[1] - place[1]) // 2)
    way = doubled(place, find_road((0, 0), halves))
    if (0, 0) in way:
        return doubled(place, find_other_road((0, 0), halves))
    return way


def find_leaver(fold, hats, goals):
    """The hat that is left next, and the hat behind it on its road; None if the goals are reached."""
    if hats == goals:
        return None
    orbits = find_orbits_about(fold, hats)
    names = [aim[0] for aim in find_orbits_about(fold, goals)]
    partners = find_partners(find_orbit_table(fold, hats, goals))
    # A goal that is free has a free orbit, so the least one is a name.
    free = [goal for goal in goals if goal not in hats]
    orbit = orbits[partners.index(names.index(free[0]))]
    start = min([(measure(hat, free[0]), hat) for hat in orbit])[1]
    way = double_road(start, free[0])
    at = find_last(way, hats)
    return (way[at], way[at + 1])


def move_orbit(fold, hats, leaver):
    """The hats that come if the orbit of the first of both hats goes to that of the second one."""
    left = spin(fold, leaver[0])
    return tuple(sorted([hat for hat in hats if hat not in left] + spin(fold, leaver[1])))


def require_hats(fold, hats):
    require(is_fold(fold), "fold")
    require(are_kept(fold, hats), "hats")


def require_kept(fold, hats, goals):
    """A kept lot of at most eight orbits, and another one to which it can be led."""
    require_hats(fold, hats)
    require(len(hats) <= fold * MOST_LINES, "hats")
    require(are_kept(fold, goals) and len(goals) == len(hats), "goals")
    require(hats == () or are_even(hats[0], goals[0]), "goals")


def is_kept(fold, thing):
    """True if thing is a kept lot of the fold."""
    require(is_fold(fold), "fold")
    return are_kept(fold, thing)


def orbits_about(fold, hats):
    """The tuple of the orbits of the hats, ascending."""
    require_hats(fold, hats)
    return find_orbits_about(fold, hats)


def orbit_table(fold, hats, goals):
    """The table of the halved distances of the orbits of the hats and those of the goals."""
    require_kept(fold, hats, goals)
    return find_orbit_table(fold, hats, goals)


def orbit_move(fold, hats, goals):
    """The hat that moves next, and the hat to which it moves; None if hats and goals are the same."""
    require_kept(fold, hats, goals)
    return find_leaver(fold, hats, goals)


def after_orbit(fold, hats, goals):
    """The kept lot that comes of the hats by one move of an orbit; hats if they are the goals."""
    require_kept(fold, hats, goals)
    leaver = find_leaver(fold, hats, goals)
    if leaver is None:
        return hats
    return move_orbit(fold, hats, leaver)
