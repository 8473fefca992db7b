"""Late looks: a robot looks, and what it has reckoned is done only later."""

from compassless.checks import require, require_row
from compassless.errors import Clash, InvalidEvent
from compassless.kinds import is_number, is_place, is_row, is_step, is_turn
from compassless.mends import put
from compassless.pushes import find_goal
from compassless.rulechecks import require_any_figure, require_rule
from compassless.ruletrees import is_headed
from compassless.ticks import find_step_in


def is_pending(thing):
    """True if thing is None, a step, or (0, 0)."""
    return thing is None or is_step(thing) or (is_place(thing) and thing == (0, 0))


def is_late_event(thing):
    if not is_headed(thing):
        return False
    if thing[0] == "look":
        return len(thing) == 3 and is_number(thing[1]) and is_turn(thing[2])
    return thing[0] == "do" and len(thing) == 2 and is_number(thing[1])


def is_late_state(thing):
    if not isinstance(thing, tuple) or len(thing) != 2 or not is_row(thing[0]):
        return False
    row, pending = thing
    if not isinstance(pending, tuple) or len(pending) != len(row):
        return False
    return all([is_pending(item) for item in pending])


def find_reason(state, event):
    """Why the event can't be, or None."""
    if not is_late_event(event):
        return "shape"
    row, pending = state
    if event[1] >= len(row):
        return "robot"
    waits = pending[event[1]] is not None
    return "pending" if waits == (event[0] == "look") else None


def do_pending(state, robot):
    row, pending = state
    step = pending[robot]
    if step != (0, 0):
        goal = find_goal((row[robot], step))
        if goal in row:
            raise Clash(robot)
        row = put(row, robot, goal)
    return (row, put(pending, robot, None))


def late_start(row):
    """The state of the row in which nothing is pending."""
    require_row(row)
    return (row, (None,) * len(row))


def is_event(thing):
    """True if thing is ("look", number, frame) or ("do", number)."""
    return is_late_event(thing)


def is_state(thing):
    """True if thing is a pair of a row and what is pending for each robot."""
    return is_late_state(thing)


def happen(state, rule, figure, event):
    """The state behind the event."""
    require(is_late_state(state), "state")
    require_rule(rule)
    require_any_figure(figure)
    reason = find_reason(state, event)
    if reason is not None:
        raise InvalidEvent(event, reason)
    robot = event[1]
    if event[0] == "do":
        return do_pending(state, robot)
    row, pending = state
    return (row, put(pending, robot, find_step_in(row, rule, figure, robot, event[2])))
