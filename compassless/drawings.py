"""Drawings: standings as lines of o and full stops, the highest line first."""

from compassless.checks import require, require_standing
from compassless.errors import InvalidText
from compassless.kinds import is_many
from compassless.standings import find_box

ROBOT = "o"
NOBODY = "."


def drawn_lines(text):
    lines = text.split("\n")
    if lines[-1] == "":
        return lines[:-1]
    return lines


def check_signs(lines):
    for j in range(len(lines)):
        for k in range(len(lines[j])):
            if lines[j][k] not in (ROBOT, NOBODY):
                raise InvalidText(j, k)


def read_drawing(text):
    """The standing of the robots in the drawing, not shifted."""
    require(isinstance(text, str), "text")
    lines = drawn_lines(text)
    check_signs(lines)
    high = len(lines)
    places = [(k, high - 1 - j) for j in range(high) for k in range(len(lines[j])) if lines[j][k] == ROBOT]
    if not is_many(len(places)):
        raise InvalidText(high, 0)
    return tuple(sorted(places))


def draw_line(standing, y, xs):
    return "".join([ROBOT if (x, y) in standing else NOBODY for x in xs])


def show_drawing(standing):
    """The drawing of the box of the standing, without a newline at the end."""
    require_standing(standing)
    low, top = find_box(standing)
    xs = list(range(low[0], top[0] + 1))
    return "\n".join([draw_line(standing, y, xs) for y in range(top[1], low[1] - 1, -1)])
