"""Heaped standings: how many robots stand where, several of them on one place at most."""

from compassless.checks import require
from compassless.errors import NotUsable
from compassless.kinds import are_unlike, is_integer, is_many, is_place
from compassless.ruletrees import is_pair
from compassless.turns import TURNS, turn_pair


def is_stack(thing):
    """True if thing is a pair of a place and how many stand there."""
    return is_pair(thing) and is_place(thing[0]) and is_integer(thing[1]) and thing[1] >= 1


def is_heaped_up(thing):
    if not isinstance(thing, tuple) or not all([is_stack(item) for item in thing]):
        return False
    if not are_unlike([place for place, _ in thing]) or list(thing) != sorted(thing):
        return False
    return is_many(sum([many for _, many in thing])) and len(find_heaps(thing)) <= 1


def find_heaps(stacks):
    """The places on which two or more stand."""
    return [place for place, many in stacks if many >= 2]


def find_heap(heaped):
    """The heap's place, or None."""
    heaps = find_heaps(heaped)
    return heaps[0] if heaps != [] else None


def stack_up(places):
    """How many stand on each of these places, ascending."""
    return tuple([(place, places.count(place)) for place in sorted(set(places))])


def turn_heaped(heaped, place, turn):
    """The heaped standing with the place taken off all places, turned."""
    x, y = place
    return tuple(sorted([(turn_pair(turn, (v - x, w - y)), many) for (v, w), many in heaped]))


def turns_of_heaped(heaped, place):
    """These for all turns, in their sequence."""
    return [turn_heaped(heaped, place, turn) for turn in TURNS]


def find_fold_about(heaped, place):
    forms = turns_of_heaped(heaped, place)
    if forms[0] == forms[1]:
        return 4
    return 2 if forms[0] == forms[2] else 1


def require_heaped(heaped):
    require(is_heaped_up(heaped), "heaped")


def is_heaped(thing):
    """True if thing is a heaped standing."""
    return is_heaped_up(thing)


def heaped_by(*places):
    """The heaped standing of robots on these places, in any sequence."""
    for k in range(len(places)):
        if not is_place(places[k]):
            raise NotUsable("places", k)
    stacks = stack_up(places)
    require(is_many(len(places)) and len(find_heaps(stacks)) <= 1, "places")
    return stacks


def heap_of(heaped):
    """The heap's place, or None."""
    require_heaped(heaped)
    return find_heap(heaped)


def fold_about(heaped, place):
    """4, 2 or 1: whether the heaped standing is itself again, turned about the place."""
    require_heaped(heaped)
    require(is_place(place), "place")
    return find_fold_about(heaped, place)


def heap_form(heaped, place):
    """The least of the four heaped standings that come if the place is taken off, by a turn."""
    require_heaped(heaped)
    require(is_place(place), "place")
    return min(turns_of_heaped(heaped, place))
