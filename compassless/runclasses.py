"""Runs as objects: events change the row, and can be taken back."""

from compassless.checks import require
from compassless.errors import InvalidEvent, NothingToUndo
from compassless.forms import are_alike
from compassless.kinds import LEAST_ROBOTS, MOST_ROBOTS, is_number, is_place
from compassless.lots import is_any_lot
from compassless.mends import drop_robot, is_free_for, put
from compassless.rulechecks import require_ruled_row
from compassless.ruletrees import is_headed
from compassless.ticks import find_tick


def is_run_event(thing):
    """True if thing is one of the four events, with any numbers as robots."""
    if not is_headed(thing):
        return False
    head = thing[0]
    if head == "push":
        return len(thing) == 3 and is_number(thing[1]) and is_place(thing[2])
    if len(thing) != 2:
        return False
    if head == "tick":
        return is_any_lot(thing[1])
    return is_place(thing[1]) if head == "join" else head == "drop" and is_number(thing[1])


def event_robots(event):
    """The robots that the event names."""
    if event[0] == "tick":
        return [robot for robot, _ in event[1]]
    return [] if event[0] == "join" else [event[1]]


def find_refusal(row, event):
    """Why the event is refused whatever the rule is, or None."""
    if not is_run_event(event):
        return "shape"
    if not all([robot < len(row) for robot in event_robots(event)]):
        return "robot"
    head = event[0]
    if head == "push":
        return None if is_free_for(row, event[1], event[2]) else "place"
    if head == "join":
        if event[1] in row:
            return "place"
        return "many" if len(row) == MOST_ROBOTS else None
    return "many" if head == "drop" and len(row) == LEAST_ROBOTS else None


def find_mend(row, event):
    """The row behind a push, a join or a drop."""
    if event[0] == "push":
        return put(row, event[1], event[2])
    return row + (event[1],) if event[0] == "join" else drop_robot(row, event[1])


class Run:
    """A row that runs by a rule towards a figure, and what happens to it."""

    def __init__(self, row, rule, figure):
        require_ruled_row(row, rule, figure)
        self._rule = rule
        self._figure = figure
        self._log = [row]

    def go(self, event):
        """Does the event."""
        self._log.append(self._behind(self._log[-1], event))

    def do_all(self, events, keep=False):
        """Does the events; if one is refused, those ahead of it stay done only if keep is True."""
        require(isinstance(events, tuple), "events")
        require(isinstance(keep, bool), "keep")
        rows = list(self._log)
        for event in events:
            rows.append(self._behind(rows[-1], event))
            if keep:
                self._log.append(rows[-1])
        self._log = rows

    def undo(self, steps=1):
        """Takes back the last events, so many."""
        require(is_number(steps), "steps")
        left = len(self._log) - steps
        if left < 1:
            raise NothingToUndo(steps)
        self._log = self._log[:left]

    def now(self):
        """The row."""
        return self._log[-1]

    def done(self):
        """True if the standing of the row is alike the figure."""
        return self._figure is not None and are_alike(self._log[-1], self._figure)

    def log(self):
        """The first row, and the row behind each event that is not taken back."""
        return tuple(self._log)

    def __eq__(self, other):
        if not isinstance(other, Run):
            return False
        return self._rule == other._rule and self._figure == other._figure and self._log == other._log

    def _behind(self, row, event):
        """The row behind the event."""
        reason = find_refusal(row, event)
        if reason is not None:
            raise InvalidEvent(event, reason)
        if event[0] != "tick":
            return find_mend(row, event)
        come, clasher = find_tick(row, self._rule, self._figure, event[1])
        if clasher >= 0:
            raise InvalidEvent(event, "clash")
        return come
