"""Who moves in a standing by a rule."""

from compassless.rulechecks import require_ruled
from compassless.scenes import Scene


def find_moves(standing, rule, figure):
    """By ascending places, pairs of the place of a robot that moves and its steps in the four frames."""
    scene = Scene(standing, rule, figure)
    found = []
    for place in standing:
        steps = sorted(set(scene.all_steps(place)))
        if steps != [(0, 0)]:
            found.append((place, tuple(steps)))
    return tuple(found)


def find_single(standing, rule, figure):
    moves = find_moves(standing, rule, figure)
    if moves == ():
        return ("rest",)
    place, steps = moves[0]
    if len(moves) > 1 or len(steps) > 1:
        return ("split",)
    return ("one", place, steps[0])


def moves_of(standing, rule, figure):
    """For each robot that moves its place and its steps over the four frames, (0, 0) for none."""
    require_ruled(standing, rule, figure)
    return find_moves(standing, rule, figure)


def single_of(standing, rule, figure):
    """("rest",), ("one", place, step) or ("split",): whether nobody or just one robot moves."""
    require_ruled(standing, rule, figure)
    return find_single(standing, rule, figure)
