"""Meetings: how robots come to one place, if they may step to taken places."""

from itertools import combinations

from compassless.centres import find_centre, find_under
from compassless.checks import require, require_standing
from compassless.errors import NotMeeting
from compassless.folds import UNEVEN, find_class, is_held
from compassless.heaps import find_fold_about, find_heap, require_heaped, stack_up, turns_of_heaped
from compassless.inwards import find_inward
from compassless.kinds import LEAST_ROBOTS, is_places
from compassless.orbittables import spin
from compassless.pictures import find_picture
from compassless.pushes import find_goal
from compassless.roads import measure
from compassless.standings import find_side
from compassless.turns import turn_back, turn_pair
from compassless.unevenlefts import find_uneven_most
from compassless.wants import find_want


def can_meet(standing):
    told = find_class(standing)
    return len(standing) > LEAST_ROBOTS and (not is_held(told) or told[2] == "place")


def require_meeting(standing):
    if not can_meet(standing):
        raise NotMeeting(find_class(standing))


def places_of(heaped):
    return tuple([place for place, _ in heaped])


def find_middle(heaped):
    """The heap's place, or the centre's, if it has a fold above 1; None for an uneven standing."""
    heap = find_heap(heaped)
    if heap is not None:
        return heap
    standing = places_of(heaped)
    return None if find_class(standing) == UNEVEN else find_under(find_centre(standing), (0, 0))


def add_up_ways(heaped, middle):
    """The sum of the other places' distances to this one."""
    return sum([measure(place, middle) for place in places_of(heaped)])


def inward_moves(heaped, middle):
    """The moves of some of those nearest to this place: of one, and of its turns."""
    others = [place for place in places_of(heaped) if place != middle]
    least = min([measure(place, middle) for place in others])
    forms = turns_of_heaped(heaped, middle)
    turn = forms.index(min(forms))
    aways = [(x - middle[0], y - middle[1]) for x, y in others if measure((x, y), middle) == least]
    away = max([(turn_pair(turn, pair), pair) for pair in aways])[1]
    fold = find_fold_about(heaped, middle)
    spun = spin(fold, away) if fold > 1 else [away]
    movers = [find_goal((middle, pair)) for pair in spun]
    return tuple(sorted([(place, find_inward(place, middle)) for place in movers]))


def nearest_pair(places):
    """The least distance of two of the places, and the least pair that has it."""
    spots = list(places)
    return min([(measure(place, other), place, other) for place, other in combinations(spots, 2)])


def uneven_meet_move(standing):
    """The move on the floor of the one robot that moves, if nobody meets yet."""
    picture = find_picture(standing)
    turn, place, others = picture
    step = (1, 0)
    if find_want(picture, 0) == 0:
        _, place, other = nearest_pair(others)
        step = (1, 0) if other[0] > place[0] else (0, 1)
    return (turn_pair(turn_back(turn), place), turn_pair(turn_back(turn), step))


def find_meet_moves(heaped):
    if len(heaped) == 1 or (find_heap(heaped) is None and not can_meet(places_of(heaped))):
        return ()
    middle = find_middle(heaped)
    if middle is None:
        return (uneven_meet_move(places_of(heaped)),)
    return inward_moves(heaped, middle)


def move_all(heaped, moves):
    """What comes if these moves are made at once, each by one robot."""
    robots = [place for place, many in heaped for _ in range(many)]
    for place, _ in moves:
        robots.remove(place)
    return stack_up(robots + [find_goal(move) for move in moves])


def is_places_of(heaped, thing):
    """True if thing is an ascending tuple of places of the heaped standing, perhaps empty."""
    if not is_places(thing) or list(thing) != sorted(set(thing)):
        return False
    known = places_of(heaped)
    return all([place in known for place in thing])


def meets(standing):
    """True if the robots of the standing can be brought to one place, whatever a fair foe does."""
    require_standing(standing)
    return can_meet(standing)


def meet_moves(heaped):
    """The moves (place, step) by ascending places."""
    require_heaped(heaped)
    return find_meet_moves(heaped)


def meet_tick(heaped, places):
    """What comes if those of the moves that begin on these places are made at once."""
    require_heaped(heaped)
    require(is_places_of(heaped, places), "places")
    return move_all(heaped, [move for move in find_meet_moves(heaped) if move[0] in places])


def meet_left(heaped):
    """The three numbers that tell what is left."""
    require_heaped(heaped)
    if len(heaped) == 1:
        return (0, 0, 0)
    heap = find_heap(heaped)
    if heap is not None:
        return (1, add_up_ways(heaped, heap), 0)
    standing = places_of(heaped)
    require_meeting(standing)
    middle = find_middle(heaped)
    if middle is not None:
        return (3, add_up_ways(heaped, middle), 0)
    picture = find_picture(standing)
    return (2, nearest_pair(picture[2])[0], find_want(picture, 0))


def meet_most(standing):
    """The most ticks in which somebody steps, until all are on one place."""
    require_standing(standing)
    require_meeting(standing)
    side = find_side(standing)
    most = find_uneven_most(len(standing), side, 0)
    return most if find_class(standing) == UNEVEN else most + len(standing) * side
