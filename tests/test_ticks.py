"""[72] to [74]: steps on the floor, ticks, runs and their checker, the foe's lots; (G7) and (G8)."""

import random
import unittest

from compassless.errors import Clash, InvalidPaper, NotHeld
from compassless.fitting import fits
from compassless.floorclasses import Motion
from compassless.foeframes import foe_frames
from compassless.foes import foe_lots, kept_run
from compassless.folds import class_of, kind_of
from compassless.forms import alike
from compassless.lefts import left_of, most_of
from compassless.lots import all_lot, lessened
from compassless.motions import carried_row, moved
from compassless.ruletrees import HOUSE
from compassless.runs import lets_log, run_of
from compassless.standings import side_of, standing_by
from compassless.ticks import step_in, tick
from compassless.turns import turned
from tests.lotsamples import (
    EAST,
    RULES,
    STAY,
    draw_any_rule,
    draw_figure,
    draw_lot,
    draw_lots,
    draw_row,
    expected_run,
    expected_step,
    expected_tick,
)
from tests.samples import BAR, ELL, SAMPLES, SQUARE, TEN, ZIG, classes_of, draw_standing, of_class

MOTIONS = ((1, 3, 0), (2, -5, 7), (3, -1, -2), (0, 4, -9))
WEST_AND_EAST = ((0, 0), (1, 2))


class Steps(unittest.TestCase):
    def test_word_by_word(self):
        rng = random.Random(72)
        found = set()
        for _ in range(150):
            row, rule = draw_row(rng), draw_any_rule(rng)
            figure = draw_figure(rng, len(row))
            for robot in range(len(row)):
                for frame in range(4):
                    due = expected_step(row, rule, figure, robot, frame)
                    self.assertEqual(step_in(row, rule, figure, robot, frame), due)
                    found.add(due)
        self.assertEqual(len(found), 5)

    def test_turned_back(self):
        row = ((5, 5), (9, 9))
        self.assertEqual([step_in(row, EAST, None, 1, q) for q in range(4)], [(1, 0), (0, -1), (-1, 0), (0, 1)])
        self.assertEqual(step_in(frame=3, robot=0, figure=BAR, rule=STAY, row=row), (0, 0))

    def test_the_house_in_each_frame(self):
        # The one on the centre takes the first free step of its own frame.
        middle = ((1, 0), (2, 0), (0, 0))
        self.assertEqual([step_in(middle, HOUSE, ELL, 0, q) for q in range(4)], [(0, 1), (0, -1), (0, -1), (0, 1)])
        for row in [draw_row(random.Random(seed)) for seed in range(60)]:
            for figure in (ELL, SQUARE, ZIG, None):
                for robot in range(len(row)):
                    due = [expected_step(row, HOUSE, figure, robot, q) for q in range(4)]
                    self.assertEqual([step_in(row, HOUSE, figure, robot, q) for q in range(4)], due)


class Ticks(unittest.TestCase):
    def ticked(self, row, rule, figure, lot):
        """The row and None, or the row as it is and the robot of the clash."""
        try:
            return tick(row, rule, figure, lot), None
        except Clash as clash:
            self.assertEqual(list(vars(clash)), ["robot"])
            return row, clash.robot

    def test_word_by_word(self):
        rng = random.Random(73)
        clashes = moves = 0
        for _ in range(1500):
            row, rule = draw_row(rng), draw_any_rule(rng)
            figure, lot = draw_figure(rng, len(row)), draw_lot(rng, len(row))
            due = expected_tick(row, rule, figure, lot)
            self.assertEqual(self.ticked(row, rule, figure, lot), due, (row, rule, figure, lot))
            clashes += due[1] is not None
            moves += due[0] != row
        self.assertGreater(min(clashes, moves), 50)

    def test_empty_and_whole_lots(self):
        self.assertEqual(tick(ELL, EAST, None, ()), ELL)
        self.assertEqual(tick(lot=all_lot(3, 2), figure=None, rule=STAY, row=ELL), ELL)
        self.assertEqual(tick(((0, 0), (2, 0)), EAST, None, all_lot(2, 1)), ((0, -1), (2, -1)))

    def test_the_row_stays_a_row(self):
        row = ((3, 0), (0, 0), (0, 7))
        self.assertEqual(tick(row, EAST, None, ((0, 0), (2, 2))), ((4, 0), (0, 0), (-1, 7)))

    def test_clashes(self):
        beside = ((0, 0), (1, 0))
        # With one who stands, with one who steps away, with one who changes places, with one who steps there.
        self.clashes(0, beside, ((0, 0),))
        self.clashes(0, beside, ((0, 0), (1, 0)))
        self.clashes(0, beside, WEST_AND_EAST)
        self.clashes(0, ((0, 0), (2, 0)), WEST_AND_EAST)
        self.assertEqual(tick(beside, EAST, None, ((1, 0),)), ((0, 0), (2, 0)))
        # The least one of those that clash, not the least one of the lot.
        row = ((9, 9), (5, 0), (3, 0), (4, 0), (6, 0))
        self.clashes(1, row, ((0, 0), (1, 0), (2, 3), (3, 0)))
        self.clashes(2, row, ((0, 0), (2, 0), (4, 0)))
        self.clashes(1, row, ((0, 0), (1, 0), (2, 0)))
        self.clashes(0, ((0, 0), (2, 0), (1, 1)), ((0, 0), (1, 2), (2, 3)))

    def clashes(self, robot, row, lot):
        with self.assertRaises(Clash) as caught:
            tick(row, EAST, None, lot)
        self.assertEqual(vars(caught.exception), {"robot": robot})

    def test_far_and_large(self):
        row = tuple((10**9 - 7 * k, -(10**9) + k * k) for k in range(10))
        self.assertEqual(tick(row, EAST, None, all_lot(10, 0)), tuple((x + 1, y) for x, y in row))
        self.assertEqual(tick(row, EAST, TEN, all_lot(10, 3)), tuple((x, y + 1) for x, y in row))


class Runs(unittest.TestCase):
    def test_word_by_word(self):
        rng = random.Random(74)
        ends = set()
        for _ in range(150):
            row, rule = draw_row(rng), draw_any_rule(rng)
            figure, lots = draw_figure(rng, len(row)), draw_lots(rng, len(row), rng.randint(0, 8))
            log, robot = expected_run(row, rule, figure, lots)
            self.assertEqual(run_of(row, rule, figure, lots), (log, robot))
            self.assertEqual(run_of(lots=lots, figure=figure, rule=rule, row=row), (log, robot))
            self.assertEqual(lets_log(row, rule, figure, lots, log), log[-1])
            ends.add((robot, len(log) == len(lots) + 1))
            self.assertEqual(len(log) == len(lots) + 1, robot == -1)
        self.assertGreater(len(ends), 4)

    def test_edges(self):
        self.assertEqual(run_of(ELL, EAST, None, ()), ((ELL,), -1))
        self.assertEqual(run_of(ELL, EAST, None, ((),)), ((ELL, ELL), -1))
        self.assertEqual(run_of(((0, 0), (1, 0)), EAST, None, (((0, 0),), ())), ((((0, 0), (1, 0)),), 0))
        log, robot = run_of(((0, 0), (3, 0)), EAST, None, (((0, 0),),) * 5)
        self.assertEqual((log, robot), ((((0, 0), (3, 0)), ((1, 0), (3, 0)), ((2, 0), (3, 0))), 0))

    def test_two_thousand_lots(self):
        row = tuple((7 * k, k * k) for k in range(10))
        log, robot = run_of(row, EAST, None, (all_lot(10, 0),) * 2000)
        self.assertEqual((len(log), robot, log[-1]), (2001, -1, tuple((x + 2000, y) for x, y in row)))
        figure = draw_standing(random.Random(1), 10, ("held", 2, "edge"))
        log, robot = run_of(TEN, HOUSE, figure, (all_lot(10, 3),) * 2000)
        self.assertEqual((len(log), robot, alike(standing_by(log[-1]), figure)), (2001, -1, True))

    def refused(self, word, at, given, thing):
        with self.assertRaises(InvalidPaper, msg=thing) as caught:
            lets_log(*given, thing)
        self.assertEqual(vars(caught.exception), {"word": word, "at": at}, thing)

    def test_checker(self):
        given = (((0, 0), (3, 0)), EAST, None, (((0, 0),), ((1, 1),), ()))
        log = (((0, 0), (3, 0)), ((1, 0), (3, 0)), ((1, 0), (3, -1)), ((1, 0), (3, -1)))
        self.assertEqual(lets_log(*given, thing=log), log[-1])
        for thing in (None, (), [], list(log), "log", 0, True, Motion(0, 0, 0)):
            self.refused("shape", -1, given, thing)
        for k in range(4):
            for wrong in (None, 7, "", log[(k + 1) % 3], list(log[k]), tuple(map(list, log[k])), log[k][::-1], ()):
                if wrong != log[k]:
                    self.refused("row", k, given, log[:k] + (wrong,) + log[k + 1:])
                    # The first one that is wrong, and ahead of the lengths.
                    self.refused("row", k, given, log[:k] + (wrong, None))
        self.refused("row", 1, given, (log[0], ((True, 0), (3, 0))))
        self.refused("row", 0, given, (((0, False), (3, 0)),))
        for k in (1, 2, 3):
            self.refused("end", -1, given, log[:k])
        self.refused("end", -1, given, log + (log[-1],))
        self.refused("end", -1, given, log + (None,))

    def test_checker_of_clashes(self):
        given = (((0, 0), (1, 0)), EAST, None, (((1, 0),), ((0, 0),), ((0, 0),), ((1, 0),)))
        log = (((0, 0), (1, 0)), ((0, 0), (2, 0)), ((1, 0), (2, 0)))
        self.assertEqual(run_of(*given), (log, 0))
        self.assertEqual(lets_log(*given, log), log[-1])
        self.refused("end", -1, given, log + (log[-1],))
        self.refused("end", -1, given, log[:-1])

    def test_carried(self):
        # (G8): the run of a carried row, in frames that are less by the turn, is the carried run.
        rng = random.Random(75)
        for _ in range(120):
            row, rule = draw_row(rng), draw_any_rule(rng)
            figure, lots = draw_figure(rng, len(row)), draw_lots(rng, len(row), 6)
            log, robot = run_of(row, rule, figure, lots)
            for motion in MOTIONS:
                due = tuple(carried_row(motion, come) for come in log)
                found = run_of(carried_row(motion, row), rule, figure, lessened(motion[0], lots))
                self.assertEqual(found, (due, robot))


class HouseRuns(unittest.TestCase):
    def test_the_figure_is_made(self):
        # (G7): in at most the most ticks in which somebody steps, and then nobody moves any more.
        rng = random.Random(76)
        for many in range(3, 8):
            for told in classes_of(many):
                for aim in classes_of(many):
                    standing, figure = draw_standing(rng, many, told), draw_standing(rng, many, aim)
                    if fits(standing, figure) and side_of(standing) + side_of(figure) < 16:
                        self.play(rng, standing, figure)

    def play(self, rng, standing, figure):
        row = tuple(rng.sample(standing, len(standing)))
        steps, left = 0, left_of(standing, figure)
        while not alike(standing_by(row), figure):
            lot = draw_lot(rng, len(row))
            come = tick(row, HOUSE, figure, lot)
            if come != row:
                steps += 1
                now = left_of(standing_by(come), figure)
                self.assertLess(now, left)
                left = now
            row = come
        self.assertLessEqual(steps, most_of(standing, figure))
        log, robot = run_of(row, HOUSE, figure, draw_lots(rng, len(row), 4))
        self.assertEqual((set(log), robot), ({row}, -1))

    def test_all_awake_from_a_held_one(self):
        # (G7): E(h) ticks, if all are woken in each.
        rng = random.Random(77)
        for many in (4, 6, 8):
            for told in classes_of(many)[:-1]:
                for aim in classes_of(many):
                    standing, figure = draw_standing(rng, many, told), draw_standing(rng, many, aim)
                    if fits(standing, figure):
                        most = (many + 3) * (side_of(standing) + side_of(figure)) // 2 + 6
                        log, _ = run_of(standing, HOUSE, figure, (all_lot(many, 1),) * most)
                        self.assertTrue(alike(standing_by(log[-1]), figure))


class Foes(unittest.TestCase):
    def test_large_ones(self):
        for standing in of_class("held"):
            if len(standing) > 2:
                row = tuple(random.Random(3).sample(standing, len(standing)))
                frames = dict(zip(standing, foe_frames(standing)))
                every = tuple((k, frames[place]) for k, place in enumerate(row))
                for many in (0, 1, 4):
                    self.assertEqual(foe_lots(row, row_figure(standing), many), (every,) * many)
        self.assertEqual(foe_lots(SQUARE, ZIG, 2), (((0, 0), (1, 1), (2, 3), (3, 2)),) * 2)

    def test_two_robots(self):
        row, other = ((2, 0), (0, 0)), ((0, 0), (1, 2))
        both = ((0, 2), (1, 0))
        self.assertEqual(foe_lots(row, ((0, 0), (4, 6)), 3), (both[:1], both, both))
        self.assertEqual(foe_lots(row, ((0, 0), (0, 2)), 1), (both[:1],))
        self.assertEqual(foe_lots(row, ((0, 0), (0, 2)), 0), ())
        for figure in (other, ((0, 0), (1, 1))):
            self.assertEqual(foe_lots(row, figure, 3), (both,) * 3)
        self.assertEqual(foe_lots(many=1, figure=other, row=other), (((0, 0),),))

    def test_kept(self):
        rng = random.Random(78)
        clashes = 0
        for standing in of_class("held"):
            figures = [s for s in SAMPLES if len(s) == len(standing)]
            for figure in rng.sample(figures, min(len(figures), 4)):
                row = tuple(rng.sample(standing, len(standing)))
                rule = draw_any_rule(rng)
                log, robot = kept_run(row, rule, figure, 12)
                self.assertEqual((log, robot), run_of(row, rule, figure, foe_lots(row, figure, 12)))
                self.assertEqual(kept_run(many=12, figure=figure, rule=rule, row=row), (log, robot))
                clashes += robot >= 0
                if not fits(standing, figure):
                    self.assertFalse([come for come in log if alike(standing_by(come), figure)])
        self.assertGreater(clashes, 5)

    def test_two_are_kept_by_every_rule(self):
        # (G7): also if the figure is of their kind.
        for row in (((0, 0), (0, 2)), ((3, 1), (0, 0)), ((1, 1), (0, 0)), ((0, 0), (4, 2))):
            for figure in (((0, 0), (2, 2)), ((0, 0), (0, 1)), ((0, 0), (3, 3)), ((0, 0), (1, 0)), ((0, 0), (0, 4))):
                for rule in RULES:
                    log, _ = kept_run(row, rule, figure, 12)
                    self.assertFalse([come for come in log if alike(standing_by(come), figure)])
                    kinds = [kind_of(standing_by(come)) for come in log]
                    if kinds[0] == kind_of(figure):
                        self.assertEqual(len(set(kinds[1:])), min(1, len(kinds) - 1))

    def test_not_held(self):
        for standing in SAMPLES:
            if class_of(standing)[0] != "held":
                for call, given in ((foe_lots, ()), (kept_run, (EAST,))):
                    with self.assertRaises(NotHeld) as caught:
                        call(standing[::-1], *given, standing, 0)
                    self.assertEqual(vars(caught.exception), {"told": class_of(standing)})


def row_figure(standing):
    """A figure of as many places in which nobody stands as in this one."""
    return tuple((k, 0) for k in range(len(standing) - 1)) + ((len(standing) + 7, 5),)


class Turns(unittest.TestCase):
    def test_steps_are_carried(self):
        rng = random.Random(79)
        for _ in range(60):
            row, rule = draw_row(rng), draw_any_rule(rng)
            figure, motion = draw_figure(rng, len(row)), rng.choice(MOTIONS)
            robot, frame = rng.randrange(len(row)), rng.randint(0, 3)
            step = step_in(row, rule, figure, robot, frame)
            other = step_in(carried_row(motion, row), rule, figure, robot, (frame - motion[0]) % 4)
            self.assertEqual(other, turned(motion[0], step))
            self.assertEqual(moved(motion, row[robot]), carried_row(motion, row)[robot])


if __name__ == "__main__":
    unittest.main()
