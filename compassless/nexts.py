"""What comes next: the stands that one lot can bring."""

from compassless.checks import require
from compassless.kinds import is_figure
from compassless.rulechecks import require_rule
from compassless.stands import MOST_JUDGED, find_stand, is_short_row
from compassless.ticks import scene_of, step_all
from compassless.turns import TURNS

MOST_LISTED = 3


def find_all_steps(row, rule, figure):
    """For each robot its steps on the floor in the four frames."""
    scene = scene_of(row, rule, figure)
    return [scene.all_steps(place) for place in row]


def telling_frames(steps):
    """The least frame for each different step."""
    return [frame for frame in TURNS if steps[frame] not in steps[:frame]]


def find_lots(frames):
    """All lots of one robot or more, each robot in one of its frames, ascending."""
    lots = [()]
    for robot in range(len(frames)):
        lots = lots + [lot + ((robot, frame),) for lot in lots for frame in frames[robot]]
    return sorted(lots)[1:]


def find_outcomes(row, steps, lots):
    """The pairs of a lot and the stand that comes, or None for a clash."""
    known = {}
    found = []
    for lot in lots:
        come, clasher = step_all(row, {robot: steps[robot][frame] for robot, frame in lot})
        if come not in known:
            known[come] = find_stand(come)
        found.append((lot, known[come] if clasher < 0 else None))
    return found


def find_nexts(row, rule, figure):
    """The outcomes of the lots that differ: of frames in which a robot steps alike only the least."""
    steps = find_all_steps(row, rule, figure)
    return find_outcomes(row, steps, find_lots([telling_frames(own) for own in steps]))


def stands_of(nexts):
    """The ascending list of the stands in these outcomes."""
    return sorted(set([stand for _, stand in nexts if stand is not None]))


def require_judged(row, rule, figure, most):
    """A row of two robots to so many, a rule, and a figure of as many places as the row."""
    require(is_short_row(row, most), "row")
    require_rule(rule)
    require(is_figure(figure, len(row)), "figure")


def nexts_of(row, rule, figure):
    """The pairs of each lot and the stand that comes, or None for a clash, by ascending lots."""
    require_judged(row, rule, figure, MOST_LISTED)
    lots = find_lots([TURNS for _ in row])
    return tuple(find_outcomes(row, find_all_steps(row, rule, figure), lots))


def stands_after(row, rule, figure):
    """The ascending tuple of the stands that come by a lot without a clash."""
    require_judged(row, rule, figure, MOST_JUDGED)
    return tuple(stands_of(find_nexts(row, rule, figure)))
