"""The foe against meetings: it keeps the robots of some held rows apart, whatever their rule is."""

from compassless.checks import require_number, require_row
from compassless.folds import require_held
from compassless.foes import find_row_frames
from compassless.pushes import find_goal
from compassless.rulechecks import require_rule
from compassless.scenes import Scene


def find_goals(places, rule, frames):
    """Where all robots come that step at once; there are several places, perhaps one of them twice."""
    scene = Scene(tuple(sorted(set(places))), rule, None)
    steps = [scene.step(places[robot], frames[robot]) for robot in range(len(places))]
    return tuple([find_goal((places[robot], steps[robot])) for robot in range(len(places))])


def meet_next(places, rule, frames):
    """What comes by one tick of the foe."""
    if len(set(places)) == 1:
        return places
    goals = find_goals(places, rule, frames)
    if len(places) == 2 and goals[0] == goals[1]:
        # Two that step alone, one after the other, stay apart.
        return (goals[0], places[1])
    return goals


def find_meet_log(row, rule, many):
    frames = find_row_frames(row)
    log = [row]
    while len(log) <= many:
        log.append(meet_next(log[-1], rule, frames))
    return tuple(log)


def meet_foe(row, rule, many):
    """The tuples of the robots' places that come, tick by tick, the row first."""
    require_row(row)
    require_rule(rule)
    require_number(many)
    require_held(tuple(sorted(row)))
    return find_meet_log(row, rule, many)
