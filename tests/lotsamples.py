"""Lots, rows and rules for the tests, and a second way to tell what a tick does."""

from compassless.meaning import step_of
from compassless.readings import read_rule
from compassless.ruletrees import HOUSE
from compassless.standings import standing_by
from compassless.turns import turned
from compassless.views import view_of
from tests.rulesamples import draw_rule
from tests.samples import SAMPLES

EAST = ("rule", (), (), ("east",))
STAY = ("rule", (), (), ("stay",))
# Steps towards the others, away from them, past them; some in one frame only.
TEXTS = (
    "else go along(sumx, sumy)",
    "else go along(-sumx, -sumy)",
    "when rank = 0 go along(sumx, sumy)",
    "when seen(1, 0) = 0 go east",
    "when seen(1, 0) = 1 and seen(0, 1) = 0 go north",
    "let a = near(2)\nwhen a < many - 1 and rank <= 1 go along(sumx * 2, sumy)",
    "when done = 1 go stay\nwhen twins < 2 go house\nelse go along(-sumy, sumx)",
    "when box(0, 9, 0, 9) = 0 go west",
)
RULES = [HOUSE, EAST, STAY] + [read_rule(text) for text in TEXTS]


def draw_any_rule(rng):
    return rng.choice(RULES) if rng.random() < 0.8 else draw_rule(rng)


def draw_row(rng, many=None):
    standing = rng.choice([s for s in SAMPLES if many in (None, len(s))])
    return tuple(rng.sample(standing, len(standing)))


def draw_figure(rng, many):
    """None, a standing of any number of places, mostly one of as many."""
    same = [s for s in SAMPLES if len(s) == many]
    return rng.choice([None, rng.choice(SAMPLES)] + rng.sample(same, 4))


def draw_lot(rng, many):
    robots = sorted(rng.sample(range(many), rng.randint(0, many)))
    return tuple((robot, rng.randint(0, 3)) for robot in robots)


def draw_lots(rng, many, times):
    return tuple(draw_lot(rng, many) for _ in range(times))


def expected_step(row, rule, figure, robot, frame):
    """The step on the floor, from the robot's own view."""
    view = view_of(standing_by(row), row[robot], frame)
    return turned((4 - frame) % 4, step_of(rule, view, figure))


def expected_tick(row, rule, figure, lot):
    """The row behind the tick and None, or the row and the robot of the clash."""
    goals = {}
    for robot, frame in lot:
        step = expected_step(row, rule, figure, robot, frame)
        if step != (0, 0):
            goals[robot] = (row[robot][0] + step[0], row[robot][1] + step[1])
    for robot in sorted(goals):
        others = [goal for other, goal in goals.items() if other != robot]
        if goals[robot] in row or goals[robot] in others:
            return row, robot
    return tuple(goals.get(robot, place) for robot, place in enumerate(row)), None


def expected_run(row, rule, figure, lots):
    log = [row]
    for lot in lots:
        come, clasher = expected_tick(log[-1], rule, figure, lot)
        if clasher is not None:
            return tuple(log), clasher
        log.append(come)
    return tuple(log), -1
