"""What a rule makes the robots of a standing do.

The house is asked once for a standing, not once for each view: what a robot does by its view is what
the house tells of the standing.
"""

from compassless.house import find_house_moves
from compassless.kinds import STEPS
from compassless.meaning import HOUSE_WAY, find_names, find_way, knows_house, plain_step
from compassless.turns import TURNS, turn_back, turn_pair
from compassless.views import find_view


class Scene:
    """A standing, and a rule and a figure by which its robots step."""

    def __init__(self, standing, rule, figure):
        self._standing = standing
        self._rule = rule
        self._figure = figure
        self._told = None

    def house_moves(self):
        """The moves with choice of the house, none if it does not know the figure."""
        if self._told is None:
            known = knows_house(self._standing, self._figure)
            self._told = find_house_moves(self._standing, self._figure) if known else ()
        return self._told

    def house_step(self, place, frame):
        """The step on the floor by the rule of the house."""
        for start, steps in self.house_moves():
            if start == place:
                # Of several steps the first one in the robot's own frame is taken.
                own = [turn_pair(turn_back(frame), step) for step in STEPS]
                return [step for step in own if step in steps][0]
        return (0, 0)

    def step(self, place, frame):
        """The step on the floor of the robot on the place in the frame, (0, 0) for none."""
        view = find_view(self._standing, place, frame)
        names = find_names(self._rule, view, self._figure)
        way = find_way(self._rule, names, view, self._figure)
        if way == HOUSE_WAY:
            return self.house_step(place, frame)
        return turn_pair(turn_back(frame), plain_step(way, names, view, self._figure))

    def all_steps(self, place):
        """The steps on the floor in the four frames, in their sequence."""
        return [self.step(place, frame) for frame in TURNS]
