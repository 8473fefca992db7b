"""Mends: a robot is pushed, joins the row, or drops out of it."""

from compassless.checks import require, require_robot, require_row
from compassless.kinds import LEAST_ROBOTS, MOST_ROBOTS, is_place, is_row


def is_free_for(row, robot, place):
    """True if nobody but the robot stands on the place."""
    return place not in row or place == row[robot]


def put(entries, at, worth):
    """The tuple with this entry in the place of another one."""
    return entries[:at] + (worth,) + entries[at + 1:]


def drop_robot(row, robot):
    return row[:robot] + row[robot + 1:]


def pushed(row, robot, place):
    """The row with the robot on the place."""
    require_row(row)
    require_robot(row, robot)
    require(is_place(place) and is_free_for(row, robot, place), "place")
    return put(row, robot, place)


def joined(row, place):
    """The row, and behind its robots one on the place."""
    require(is_row(row) and len(row) < MOST_ROBOTS, "row")
    require(is_place(place) and place not in row, "place")
    return row + (place,)


def dropped(row, robot):
    """The row without the robot."""
    require(is_row(row) and len(row) > LEAST_ROBOTS, "row")
    require_robot(row, robot)
    return drop_robot(row, robot)
