"""Motions as objects."""

from compassless.checks import require, require_standing
from compassless.errors import NotUsable
from compassless.kinds import is_integer, is_place, is_turn
from compassless.motions import carry, join_motions, move_place, undo_motion


class Motion:
    """A motion that never changes."""

    def __init__(self, turn, a, b):
        require(is_turn(turn), "turn")
        require(is_integer(a), "a")
        require(is_integer(b), "b")
        self._triple = (turn, a, b)

    def at(self, place):
        """The place to which the motion brings the place."""
        require(is_place(place), "place")
        return move_place(self._triple, place)

    def of(self, standing):
        """The places to which the motion brings those of the standing, ascending."""
        require_standing(standing)
        return carry(self._triple, standing)

    def back(self):
        """The Motion that undoes this one."""
        turn, a, b = undo_motion(self._triple)
        return Motion(turn, a, b)

    def told(self):
        """The triple of the turn and the pair that is added."""
        return self._triple

    def __mul__(self, other):
        if not isinstance(other, Motion):
            raise NotUsable("other", -1)
        turn, a, b = join_motions(self._triple, other._triple)
        return Motion(turn, a, b)

    def __eq__(self, other):
        return isinstance(other, Motion) and self._triple == other._triple
