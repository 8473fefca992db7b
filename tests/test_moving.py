"""[75], [76] and [80]: who moves, courses, what is foretold, who is needed; (G9)."""

import random
import unittest

from compassless.courses import course_of, foretold
from compassless.errors import NotUneven, NotUsable
from compassless.folds import class_of
from compassless.forms import alike
from compassless.house import house_moves
from compassless.motions import carried, carried_row, moved
from compassless.moving import moves_of, single_of
from compassless.needs import needed, stopped_at
from compassless.pushes import after_moves
from compassless.readings import read_rule
from compassless.ruletrees import HOUSE
from compassless.standings import standing_by
from compassless.ticks import tick
from compassless.turns import turned
from compassless.unevenmoves import uneven_move
from compassless.walks import Walk
from tests.lotsamples import EAST, RULES, STAY, draw_any_rule, draw_figure, draw_lot, expected_step
from tests.samples import BAR, ELL, LINE, PLUS, SAMPLES, SQUARE, UNEVEN, ZIG, classes_of, draw_standing, of_class

FAR = ((0, 0), (0, 1), (3, 0))
MOTIONS = ((1, 3, 0), (2, -5, 7), (3, -1, -2))
GO = read_rule("when rank = 0 and far < 9 go along(-sumx, -sumy)")


def expected_moves(standing, rule, figure):
    found = []
    for robot, place in enumerate(standing):
        steps = {expected_step(standing, rule, figure, robot, frame) for frame in range(4)}
        if steps != {(0, 0)}:
            found.append((place, tuple(sorted(steps))))
    return tuple(found)


def expected_single(standing, rule, figure):
    moves = expected_moves(standing, rule, figure)
    if not moves:
        return ("rest",)
    if len(moves) == 1 and len(moves[0][1]) == 1:
        return ("one", moves[0][0], moves[0][1][0])
    return ("split",)


class Moves(unittest.TestCase):
    def test_word_by_word(self):
        rng = random.Random(75)
        words, idle = set(), 0
        for _ in range(300):
            standing, rule = rng.choice(SAMPLES), draw_any_rule(rng)
            figure = draw_figure(rng, len(standing))
            due = expected_moves(standing, rule, figure)
            self.assertEqual(moves_of(standing, rule, figure), due)
            self.assertEqual(moves_of(figure=figure, rule=rule, standing=standing), due)
            single = expected_single(standing, rule, figure)
            self.assertEqual(single_of(standing, rule, figure), single)
            self.assertEqual(single_of(figure=figure, rule=rule, standing=standing), single)
            words.add(single[0])
            idle += any((0, 0) in steps for _, steps in due)
        self.assertEqual(words, {"rest", "one", "split"})
        self.assertGreater(idle, 10)

    def test_no_step_in_some_frames(self):
        rule = read_rule("when seen(1, 0) = 1 go west")
        pair = ((0, 0), (1, 0))
        self.assertEqual(moves_of(pair, rule, None), (((0, 0), ((-1, 0), (0, 0))), ((1, 0), ((0, 0), (1, 0)))))
        rule = read_rule("when seen(1, 0) = 1 and rank = 0 go west")
        self.assertEqual(moves_of(FAR, rule, None), ())
        corner = ((0, 0), (0, 1), (9, 1))
        rule = read_rule("when rank = 0 and sumx < 0 go west")
        self.assertEqual(single_of(corner, rule, None), ("split",))
        self.assertEqual(len(moves_of(corner, rule, None)), 1)

    def test_words(self):
        self.assertEqual((single_of(ELL, STAY, None), single_of(ELL, HOUSE, None)), (("rest",), ("rest",)))
        self.assertEqual(single_of(FAR, HOUSE, ELL), ("one", (3, 0), (-1, 0)))
        # One that moves alone, but not by the same step in all frames; two that move.
        self.assertEqual((single_of(BAR, HOUSE, ELL), single_of(ZIG, HOUSE, SQUARE)), (("split",), ("split",)))
        self.assertEqual(moves_of(ELL, EAST, None)[2], ((1, 0), ((-1, 0), (0, -1), (0, 1), (1, 0))))

    def test_house(self):
        # [80]: with HOUSE and a figure of as many places.
        rng = random.Random(80)
        for standing in SAMPLES + [PLUS]:
            for figure in rng.sample([s for s in SAMPLES if len(s) == len(standing)], 3):
                self.assertEqual(moves_of(standing, HOUSE, figure), house_moves(standing, figure))
            self.assertEqual(moves_of(standing, HOUSE, None), ())

    def test_carried(self):
        rng = random.Random(76)
        for _ in range(60):
            standing, rule = rng.choice(SAMPLES), draw_any_rule(rng)
            figure, motion = draw_figure(rng, len(standing)), rng.choice(MOTIONS)
            due = {}
            for place, steps in moves_of(standing, rule, figure):
                due[moved(motion, place)] = tuple(sorted(turned(motion[0], step) for step in steps))
            self.assertEqual(moves_of(carried(motion, standing), rule, figure), tuple(sorted(due.items())))


def expected_course(standing, rule, figure, many):
    log = [standing]
    while True:
        single = single_of(log[-1], rule, figure)
        if single[0] != "one":
            return single[0], tuple(log)
        (x, y), (a, b) = single[1:]
        if (x + a, y + b) in log[-1]:
            return "clash", tuple(log)
        if len(log) > many:
            return "long", tuple(log)
        log.append(after_moves(log[-1], (single[1:],)))


class Courses(unittest.TestCase):
    def test_word_by_word(self):
        rng = random.Random(77)
        words = set()
        rules = RULES + [GO] * 4 + [HOUSE] * 4
        for _ in range(250):
            standing, rule = rng.choice(SAMPLES), rng.choice(rules)
            figure = rng.choice([s for s in SAMPLES if len(s) == len(standing)])
            many = rng.choice([0, 1, 3, 9])
            due = expected_course(standing, rule, figure, many)
            self.assertEqual(course_of(standing, rule, figure, many), due)
            self.assertEqual(course_of(many=many, figure=figure, rule=rule, standing=standing), due)
            words.add(due[0])
        self.assertGreaterEqual(words, {"rest", "split", "long"})

    def test_ends(self):
        behind = ((0, 0), (0, 1), (2, 0))
        self.assertEqual(course_of(FAR, HOUSE, ELL, 5), ("rest", (FAR, behind, ELL)))
        self.assertEqual(course_of(FAR, HOUSE, ELL, 2), ("rest", (FAR, behind, ELL)))
        self.assertEqual(course_of(FAR, HOUSE, ELL, 1), ("long", (FAR, behind)))
        self.assertEqual(course_of(FAR, HOUSE, ELL, 0), ("long", (FAR,)))
        self.assertEqual(course_of(ELL, HOUSE, ELL, 0), ("rest", (ELL,)))
        self.assertEqual(course_of(BAR, HOUSE, ELL, 9), ("split", (BAR,)))
        # Held ones of two robots that fit nothing.
        self.assertEqual(course_of(((0, 0), (0, 1)), HOUSE, ((0, 0), (0, 2)), 9), ("rest", (((0, 0), (0, 1)),)))

    def test_clash(self):
        # The one furthest out goes inwards, until somebody is in its way; also where no move may be made.
        rule = read_rule("when rank = 0 go along(sumx, sumy)")
        row = ((0, 0), (1, 0), (5, 0))
        log = (row, ((0, 0), (1, 0), (4, 0)), ((0, 0), (1, 0), (3, 0)))
        self.assertEqual(course_of(row, rule, BAR, 2), ("long", log))
        self.assertEqual(course_of(row, rule, BAR, 9)[1][:3], log)
        blocked = ((0, 0), (1, 0), (2, 0), (9, 0), (10, 0))
        for many in (0, 3):
            self.assertEqual(course_of(blocked, rule, blocked, many), ("clash", (blocked,)))

    def test_to_the_figure(self):
        rng = random.Random(78)
        for many in range(3, 8):
            standing = draw_standing(rng, many, UNEVEN)
            for told in classes_of(many):
                figure = draw_standing(rng, many, told)
                walk = Walk(standing, figure)
                walk.go(2000)
                self.assertEqual(course_of(standing, HOUSE, figure, 2000), ("rest", walk.told()))

    def test_one_sequence(self):
        # (G9): whatever lots come, each next standing is the same or the next of the log.
        rng = random.Random(79)
        for many in (3, 4, 5, 6):
            standing, figure = draw_standing(rng, many, UNEVEN), draw_standing(rng, many, UNEVEN)
            for rule in (HOUSE, GO):
                word, log = course_of(standing, rule, figure, 40)
                row = tuple(rng.sample(standing, many))
                at = 0
                while at < len(log) - 1:
                    row = tick(row, rule, figure, draw_lot(rng, many))
                    at += standing_by(row) != log[at]
                    self.assertEqual(standing_by(row), log[at])
                if word == "rest":
                    # Behind it nothing changes.
                    for _ in range(9):
                        self.assertEqual(tick(row, rule, figure, draw_lot(rng, many)), row)
                for come in log[: -1 if word == "rest" else None]:
                    self.assertEqual(class_of(come), UNEVEN)

    def test_a_figure_of_as_many(self):
        for wrong in (None, SQUARE, ((0, 0), (0, 1)), BAR[::-1]):
            with self.assertRaises(NotUsable) as caught:
                course_of(ELL, STAY, wrong, None)
            self.assertEqual(vars(caught.exception), {"word": "figure", "at": -1})


class Foretold(unittest.TestCase):
    def test_word_by_word(self):
        rng = random.Random(81)
        for many in range(3, 9):
            standing, figure = draw_standing(rng, many, UNEVEN), draw_standing(rng, many, rng.choice(classes_of(many)))
            moves = foretold(standing, figure)
            self.assertEqual(foretold(figure=figure, standing=standing), moves)
            here = standing
            for move in moves:
                self.assertEqual(uneven_move(here, figure), move)
                here = after_moves(here, (move,))
            self.assertTrue(alike(here, figure))
            self.assertEqual(type(moves), tuple)

    def test_edges(self):
        self.assertEqual(foretold(FAR, ELL), (((3, 0), (-1, 0)), ((2, 0), (-1, 0))))
        for standing in SAMPLES:
            self.assertEqual(foretold(standing, carried((3, 7, -1), standing)), ())

    def test_not_uneven(self):
        row = ((1, 0), (0, 0))
        for standing in of_class("held") + of_class("pinned"):
            for figure in [s for s in SAMPLES if len(s) == len(standing) and not alike(s, standing)][:2]:
                for call, given in ((foretold, (standing, figure)), (needed, (standing[::-1], figure))):
                    self.raised(call, *given, told=class_of(standing))
                self.raised(stopped_at, standing[::-1], figure, (), told=class_of(standing))
        self.raised(needed, row, ((0, 0), (1, 1)), told=("held", 2, "edge"))

    def raised(self, call, *given, told):
        with self.assertRaises(NotUneven) as caught:
            call(*given)
        self.assertEqual(vars(caught.exception), {"told": told})


def expected_workers(row, figure):
    places, workers = list(row), []
    for (x, y), (a, b) in foretold(standing_by(row), figure):
        workers.append(places.index((x, y)))
        places[workers[-1]] = (x + a, y + b)
    return workers


class Needs(unittest.TestCase):
    def pairs(self):
        rng = random.Random(82)
        for many in range(3, 8):
            for _ in range(2):
                standing = draw_standing(rng, many, UNEVEN)
                figure = draw_standing(rng, many, rng.choice(classes_of(many)))
                yield rng, tuple(rng.sample(standing, many)), figure

    def test_word_by_word(self):
        for rng, row, figure in self.pairs():
            workers = expected_workers(row, figure)
            self.assertEqual(needed(row, figure), tuple(sorted(set(workers))))
            self.assertEqual(needed(figure=figure, row=row), needed(row, figure))
            for _ in range(3):
                robots = tuple(sorted(rng.sample(range(len(row)), rng.randint(0, len(row)))))
                due = next((k for k, worker in enumerate(workers) if worker in robots), len(workers))
                self.assertEqual(stopped_at(row, figure, robots), due)
                self.assertEqual(stopped_at(robots=robots, figure=figure, row=row), due)

    def test_edges(self):
        row = ((3, 0), (0, 1), (0, 0))
        self.assertEqual((needed(row, ELL), stopped_at(row, ELL, ())), ((0,), 2))
        self.assertEqual((stopped_at(row, ELL, (0,)), stopped_at(row, ELL, (1, 2)), stopped_at(row, ELL, (0, 1, 2))), (0, 2, 0))
        self.assertEqual((needed(SQUARE, SQUARE), stopped_at(LINE, LINE, (0, 1, 2, 3))), ((), 0))
        self.assertEqual(needed(((0, 0), (5, 5)), ((0, 5), (5, 0))), ())

    def test_asleep_for_good(self):
        # [80]: just stopped_at moves are made if these never wake and all others again and again.
        for rng, row, figure in self.pairs():
            robots = tuple(sorted(rng.sample(range(len(row)), rng.randint(1, len(row) - 1))))
            due = stopped_at(row, figure, robots)
            if due > 60:
                continue
            awake = [k for k in range(len(row)) if k not in robots]
            made, come = 0, row
            for _ in range(due + 3):
                for robot in awake:
                    before, come = come, tick(come, HOUSE, figure, ((robot, rng.randint(0, 3)),))
                    made += before != come
            self.assertEqual(made, due)

    def test_carried(self):
        for rng, row, figure in self.pairs():
            motion = rng.choice(MOTIONS)
            self.assertEqual(needed(carried_row(motion, row), figure), needed(row, carried(motion, figure)))


if __name__ == "__main__":
    unittest.main()
