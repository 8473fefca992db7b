"""Ticks: all robots of a lot step at once, or, in a clash, nobody."""

from compassless.checks import require, require_frame, require_robot
from compassless.errors import Clash
from compassless.lots import is_lot_below
from compassless.pushes import find_goal
from compassless.rulechecks import require_ruled_row
from compassless.scenes import Scene


def scene_of(row, rule, figure):
    return Scene(tuple(sorted(row)), rule, figure)


def find_step_in(row, rule, figure, robot, frame):
    return scene_of(row, rule, figure).step(row[robot], frame)


def find_steps(row, rule, figure, lot):
    """A dict from each robot of the lot to its step on the floor, (0, 0) for none."""
    scene = scene_of(row, rule, figure)
    return {robot: scene.step(row[robot], frame) for robot, frame in lot}


def find_clasher(row, goals):
    """The least robot whose goal is taken or another one's goal, too, or None."""
    aims = [goals[robot] for robot in goals]
    for robot in goals:
        if goals[robot] in row or aims.count(goals[robot]) > 1:
            return robot
    return None


def step_all(row, steps):
    """The row behind these steps, by robots ascending, and -1; in a clash this row, and its robot."""
    goals = {robot: find_goal((row[robot], steps[robot])) for robot in steps if steps[robot] != (0, 0)}
    clasher = find_clasher(row, goals)
    if clasher is not None:
        return (row, clasher)
    return (tuple([goals.get(robot, row[robot]) for robot in range(len(row))]), -1)


def find_tick(row, rule, figure, lot):
    """The row behind a tick of the lot, and -1; in a clash this row, and the robot of the Clash."""
    return step_all(row, find_steps(row, rule, figure, lot))


def step_in(row, rule, figure, robot, frame):
    """The robot's step on the floor in the frame, (0, 0) for none."""
    require_ruled_row(row, rule, figure)
    require_robot(row, robot)
    require_frame(frame)
    return find_step_in(row, rule, figure, robot, frame)


def tick(row, rule, figure, lot):
    """The row behind a tick of the lot."""
    require_ruled_row(row, rule, figure)
    require(is_lot_below(len(row), lot), "lot")
    come, clasher = find_tick(row, rule, figure, lot)
    if clasher >= 0:
        raise Clash(clasher)
    return come
