"""[79]: the class Run."""

import random
import unittest

from compassless.errors import Clash, InvalidEvent, NothingToUndo, NotUsable
from compassless.floorclasses import Motion
from compassless.forms import alike
from compassless.lots import lessened
from compassless.mends import dropped, joined, pushed
from compassless.motions import carried, carried_row, moved
from compassless.readings import read_rule
from compassless.ruletrees import HOUSE
from compassless.runclasses import Run
from compassless.standings import standing_by
from compassless.ticks import tick
from tests.lotsamples import EAST, RULES, STAY, draw_any_rule, draw_figure, draw_lot, draw_row
from tests.samples import BAD_INTEGERS, BAD_ROWS, BAD_STANDINGS, BAR, ELL, SQUARE, TEN
from tests.test_lots import NO_LOTS

ROW = ((0, 0), (3, 0), (0, 5))
TICK = ("tick", ((0, 0),))
NO_EVENTS = [None, True, 0, "tick", (), [], ("tick",), ("tick", (), ()), ["tick", ()], ("tock", ()), (("tick",), ())]
NO_EVENTS += [("push", 0), ("push", 0, (9, 9), 0), ("push", -1, (9, 9)), ("push", True, (9, 9)), ("push", 0, (9, True))]
NO_EVENTS += [("push", 0, [9, 9]), ("push", (9, 9), 0), ("push", 0, None), ("join",), ("join", 0), ("join", (9, 9), 0)]
NO_EVENTS += [("join", (9,)), ("join", (False, 9)), ("drop",), ("drop", -1), ("drop", False), ("drop", (0,)), ("drop", 0, 0)]
NO_EVENTS += [("look", 0, 0), ("do", 0), ("drop", None), Motion(0, 0, 0), (Motion(0, 0, 0), 0), (["drop"], 0)]
NO_EVENTS += [("tick", lot) for lot in NO_LOTS]


def expected(row, rule, figure, event):
    """The row behind the event, or the reason for which it is refused."""
    head, *given = event
    if head == "tick":
        if any(robot >= len(row) for robot, _ in given[0]):
            return "robot"
        try:
            return tick(row, rule, figure, given[0])
        except Clash:
            return "clash"
    if head in ("push", "drop") and given[0] >= len(row):
        return "robot"
    if head == "push":
        others = row[:given[0]] + row[given[0] + 1:]
        return "place" if given[1] in others else pushed(row, *given)
    if head == "join":
        return "place" if given[0] in row else "many" if len(row) == 10 else joined(row, *given)
    return "many" if len(row) == 2 else dropped(row, *given)


def draw_event(rng, row):
    many = len(row)
    head = rng.choice(["tick", "tick", "push", "join", "drop"])
    place = rng.choice([rng.choice(row), (rng.randint(-5, 5), rng.randint(-5, 5))])
    robot = rng.randint(0, many - (rng.random() < 0.8))
    return {
        "tick": ("tick", draw_lot(rng, many + (rng.random() < 0.2))),
        "push": ("push", robot, place),
        "join": ("join", place),
        "drop": ("drop", robot),
    }[head]


class Events(unittest.TestCase):
    def refused(self, reason, call, event):
        with self.assertRaises(InvalidEvent, msg=event) as caught:
            call()
        self.assertIs(caught.exception.event, event)
        self.assertEqual((caught.exception.reason, set(vars(caught.exception))), (reason, {"event", "reason"}), event)

    def test_word_by_word(self):
        rng = random.Random(79)
        found = {}
        for _ in range(80):
            row, rule = draw_row(rng), draw_any_rule(rng)
            figure = draw_figure(rng, len(row))
            run, log = Run(row, rule, figure), [row]
            for _ in range(25):
                event = draw_event(rng, log[-1])
                due = expected(log[-1], rule, figure, event)
                if isinstance(due, str):
                    self.refused(due, lambda: run.go(event), event)
                else:
                    self.assertIsNone(run.go(event))
                    log.append(due)
                word = due if isinstance(due, str) else event[0]
                found[word] = found.get(word, 0) + 1
                self.assertEqual((run.now(), run.log()), (log[-1], tuple(log)))
                done = figure is not None and alike(standing_by(log[-1]), figure)
                self.assertIs(run.done(), done)
        self.assertEqual(set(found), {"tick", "push", "join", "drop", "robot", "place", "many", "clash"})
        self.assertGreater(min(found.values()), 10)

    def test_one_by_one(self):
        run = Run(figure=ELL, rule=EAST, row=ROW)
        self.assertEqual((run.now(), run.log(), run.done()), (ROW, (ROW,), False))
        run.go(event=("tick", ((0, 0), (2, 2))))
        self.assertEqual(run.now(), ((1, 0), (3, 0), (-1, 5)))
        run.go(("push", 2, (1, 1)))
        run.go(("push", 1, (2, 0)))
        self.assertEqual((run.now(), run.done()), (((1, 0), (2, 0), (1, 1)), True))
        run.go(("join", (0, 0)))
        run.go(("drop", 0))
        self.assertEqual((run.now(), run.done(), len(run.log())), (((2, 0), (1, 1), (0, 0)), False, 6))
        run.go(("tick", ()))
        run.go(("push", 0, (2, 0)))
        self.assertEqual((run.log()[-1], len(run.log())), (run.log()[-3], 8))

    def test_shapes(self):
        for event in NO_EVENTS:
            run = Run(ROW, EAST, None)
            self.refused("shape", lambda: run.go(event), event)
            self.assertEqual(run.log(), (ROW,))

    def test_first_reason(self):
        run, two, ten = Run(ROW, EAST, None), Run(((0, 0), (1, 0)), EAST, None), Run(TEN, EAST, None)
        for event in (("tick", ((0, 0), (3, 0))), ("push", 3, (0, 0)), ("drop", 3), ("tick", ((10**30, 1),))):
            self.refused("robot", lambda: run.go(event), event)
        for event in (("drop", 2), ("push", 2, (0, 0)), ("tick", ((0, 0), (2, 0)))):
            self.refused("robot", lambda: two.go(event), event)
        for event in (("push", 0, (3, 0)), ("join", (3, 0))):
            self.refused("place", lambda: run.go(event), event)
        event = ("join", TEN[4])
        self.refused("place", lambda: ten.go(event), event)
        for live, event in ((two, ("drop", 0)), (ten, ("join", (5, 5)))):
            self.refused("many", lambda: live.go(event), event)
        event = ("tick", ((0, 0), (1, 0)))
        self.refused("clash", lambda: two.go(event), event)
        self.assertEqual([len(live.log()) for live in (run, two, ten)], [1, 1, 1])
        # The Run goes on.
        two.go(("tick", ((1, 0),)))
        two.go(("tick", ((0, 0),)))
        self.assertEqual(two.now(), ((1, 0), (2, 0)))

    def test_figures(self):
        for figure in (None, BAR, SQUARE, TEN):
            self.assertIs(Run(ELL, STAY, figure).done(), False)
        self.assertIs(Run(ELL[::-1], STAY, carried((3, 5, 5), ELL)).done(), True)
        run = Run(((3, 0), (0, 1), (0, 0)), HOUSE, ELL)
        run.do_all((("tick", ((0, 3),)),) * 9)
        self.assertEqual((run.now(), run.done(), len(run.log())), (((1, 0), (0, 1), (0, 0)), True, 10))


class Many(unittest.TestCase):
    def test_do_all(self):
        rng = random.Random(80)
        refused = 0
        for _ in range(120):
            row, rule = draw_row(rng), rng.choice(RULES)
            figure = draw_figure(rng, len(row))
            events = tuple(draw_event(rng, row) for _ in range(6))
            one, kept, fresh = (Run(row, rule, figure) for _ in range(3))
            wrong = None
            for event in events:
                try:
                    one.go(event)
                except InvalidEvent as error:
                    wrong = error
                    break
            if wrong is None:
                self.assertIsNone(kept.do_all(events, True))
                self.assertIsNone(fresh.do_all(events))
                self.assertEqual((kept == one, fresh == one), (True, True))
            else:
                refused += 1
                for run, given, log in ((kept, (events, True), one.log()), (fresh, (events,), (row,))):
                    with self.assertRaises(InvalidEvent) as caught:
                        run.do_all(*given)
                    self.assertIs(caught.exception.event, wrong.event)
                    self.assertEqual((caught.exception.reason, run.log()), (wrong.reason, log))
        self.assertGreater(min(refused, 120 - refused), 10)

    def test_taken_back_or_kept(self):
        events = (TICK, ("drop", 1), ("drop", 1), None, TICK)
        run = Run(ROW, EAST, None)
        run.go(TICK)
        before = run.log()
        for keep in (False, None):
            with self.assertRaises(InvalidEvent) as caught:
                run.do_all(events) if keep is None else run.do_all(keep=keep, events=events)
            self.assertIs(caught.exception.event, events[2])
            self.assertEqual((caught.exception.reason, run.log()), ("many", before))
        with self.assertRaises(InvalidEvent):
            run.do_all(events, keep=True)
        self.assertEqual(run.log(), before + (((2, 0), (3, 0), (0, 5)), ((2, 0), (0, 5))))
        run.do_all(())
        run.do_all((), True)
        self.assertEqual(len(run.log()), 4)

    def test_many_events(self):
        run = Run(ROW, EAST, None)
        run.do_all((("tick", ((1, 0),)),) * 2000)
        self.assertEqual((run.now()[1], len(run.log())), ((2003, 0), 2001))
        run.undo(2000)
        self.assertEqual(run.log(), (ROW,))

    def test_undo(self):
        run = Run(ROW, EAST, None)
        run.do_all((TICK, ("join", (7, 7)), ("drop", 1)))
        log = run.log()
        self.assertIsNone(run.undo())
        self.assertEqual((run.now(), run.log()), (log[2], log[:3]))
        self.assertIsNone(run.undo(0))
        self.assertEqual(run.log(), log[:3])
        for steps in (3, 10**30):
            with self.assertRaises(NothingToUndo) as caught:
                run.undo(steps)
            self.assertEqual(vars(caught.exception), {"steps": steps})
            self.assertEqual(run.log(), log[:3])
        run.undo(steps=2)
        self.assertEqual((run.now(), run.log()), (ROW, (ROW,)))
        run.undo(0)
        with self.assertRaises(NothingToUndo) as caught:
            run.undo()
        self.assertEqual(vars(caught.exception), {"steps": 1})
        run.go(TICK)
        self.assertEqual(run.log(), log[:2])

    def test_logs_stay(self):
        run = Run(ROW, EAST, None)
        log = run.log()
        run.go(TICK)
        self.assertEqual((log, type(run.log())), ((ROW,), tuple))


def carried_event(motion, event):
    """The event with its frames and places carried likewise."""
    head, *given = event
    if head == "tick":
        return (head, *lessened(motion[0], (given[0],)))
    return (head, *[moved(motion, part) if isinstance(part, tuple) else part for part in given])


class Runs(unittest.TestCase):
    def test_carried(self):
        # (G8): a live run is carried, if the frames and places of its events are.
        rng = random.Random(81)
        for _ in range(60):
            row, rule, motion = draw_row(rng), draw_any_rule(rng), (rng.randint(0, 3), rng.randint(-9, 9), 4)
            figure = draw_figure(rng, len(row))
            run, other = Run(row, rule, figure), Run(carried_row(motion, row), rule, figure)
            for _ in range(12):
                event = draw_event(rng, run.now())
                try:
                    run.go(event)
                except InvalidEvent as error:
                    with self.assertRaises(InvalidEvent) as caught:
                        other.go(carried_event(motion, event))
                    self.assertEqual(caught.exception.reason, error.reason)
                else:
                    other.go(carried_event(motion, event))
            self.assertEqual(other.log(), tuple(carried_row(motion, come) for come in run.log()))
            self.assertIs(other.done(), run.done())

    def test_equal(self):
        run, same = Run(ROW, EAST, ELL), Run(ROW, EAST, ELL)
        self.assertIs(run == same, True)
        self.assertIs(run != same, False)
        run.go(TICK)
        self.assertIs(run == same, False)
        same.go(("push", 0, (1, 0)))
        # The log counts, not the events.
        self.assertIs(run == same, True)
        run.go(TICK)
        run.undo()
        self.assertIs(run == same, True)
        for other in (Run(ROW, EAST, None), Run(ROW, STAY, ELL), Run(ROW, EAST, carried((0, 1, 0), ELL))):
            other.go(("push", 0, (1, 0)))
            self.assertEqual(other.log(), run.log())
            self.assertIs(run == other, False)
        late = Run(((1, 0), (3, 0), (0, 5)), EAST, ELL)
        self.assertEqual(late.now(), run.now())
        for other in (late, run.log(), ROW, None, 0, Motion(0, 0, 0)):
            self.assertIs(run == other, False)

    def test_wrong_inputs(self):
        rule = read_rule("else go east")
        for wrong in BAD_ROWS:
            self.refused("row", Run, wrong, None, 7)
        for wrong in (None, True, "", (), "else go east", list(rule), rule[:3], ("rule", (), (), ("along",))):
            self.refused("rule", Run, ROW, wrong, 7)
        for wrong in BAD_STANDINGS[1:]:
            self.refused("figure", Run, ROW, rule, wrong)
        run = Run(ROW, rule, None)
        run.go(TICK)
        log = run.log()
        for wrong in (None, True, 0, "", [], [TICK], "tick"):
            self.refused("events", run.do_all, wrong)
            self.refused("events", run.do_all, wrong, 7)
        for wrong in (None, 0, 1, "", (), "True"):
            self.refused("keep", run.do_all, (TICK,), wrong)
        for wrong in BAD_INTEGERS + [-1]:
            self.refused("steps", run.undo, wrong)
        self.assertEqual(run.log(), log)

    def refused(self, word, call, *given):
        with self.assertRaises(NotUsable) as caught:
            call(*given)
        self.assertEqual(vars(caught.exception), {"word": word, "at": -1}, given)


if __name__ == "__main__":
    unittest.main()
