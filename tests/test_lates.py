"""[77] and [78]: late looks, mends; (G8) and (G9) for late looks."""

import random
import unittest

from compassless.courses import course_of
from compassless.errors import Clash, InvalidEvent, NotUsable
from compassless.floorclasses import Motion
from compassless.lates import happen, is_event, is_state, late_start
from compassless.mends import dropped, joined, pushed
from compassless.motions import carried_row
from compassless.readings import read_rule
from compassless.ruletrees import HOUSE
from compassless.standings import standing_by
from compassless.ticks import step_in
from compassless.turns import turned
from tests.lotsamples import EAST, RULES, STAY, draw_any_rule, draw_figure, draw_row
from tests.samples import (
    BAD_PLACES,
    BAD_ROWS,
    BAD_STANDINGS,
    ELEVEN,
    ELL,
    SQUARE,
    STEPS,
    TEN,
    UNEVEN,
    draw_standing,
    shuffled_rows,
)

ROW = ((0, 0), (3, 0), (0, 5))
NO_EVENTS = [None, True, 0, "do", "look", (), [], ("do",), ("do", 0, 0), ("look", 0), ("look", 0, 0, 0), ["do", 0]]
NO_EVENTS += [("do", -1), ("do", True), ("do", None), ("look", 0, 4), ("look", 0, -1), ("look", True, 0), ("look", 0, None)]
NO_EVENTS += [("look", 0, True), ("dO", 0), (0, "do"), ("done", 0), (("do",), 0), Motion(0, 0, 0), (Motion(0, 0, 0), 0)]
NO_EVENTS += [("tick", ()), ("push", 0, (1, 1)), (["do"], 0), ("do", "0"), ("do", (0,))]
NO_STATES = [None, True, (), [], (ROW,), ROW, (ROW, ()), (ROW, (None, None)), (ROW, (None,) * 4), [ROW, (None,) * 3]]
NO_STATES += [(ROW, [None] * 3), (ROW, (None, None, (1, 1))), (ROW, (None, None, (True, 0))), (ROW, (None, None, False))]
NO_STATES += [(ROW, (None, None, (0, False))), (ROW, (None, None, (2, 0))), (ROW, (None, None, [0, 0])), (ROW, None)]
NO_STATES += [(ROW, (None, None, ())), (ROW, (None,) * 3, None), Motion(0, 0, 0), (ROW, (None, None, "east"))]


class Kinds(unittest.TestCase):
    def test_events(self):
        for number in (0, 1, 9, 10**30):
            for event in [("do", number)] + [("look", number, frame) for frame in range(4)]:
                self.assertIs(is_event(event), True)
                self.assertIs(is_event(thing=event), True)
        for thing in NO_EVENTS:
            self.assertIs(is_event(thing), False, thing)

    def test_states(self):
        for row in shuffled_rows(77):
            state = late_start(row)
            self.assertEqual(state, (row, (None,) * len(row)))
            self.assertIs(is_state(state), True)
        self.assertEqual(late_start(row=ELL), (ELL, (None, None, None)))
        for pending in STEPS + ((0, 0), None):
            self.assertIs(is_state((ROW, (pending, (0, 0), None))), True)
        for thing in NO_STATES:
            self.assertIs(is_state(thing), False, thing)
        for row in BAD_ROWS:
            self.assertIs(is_state((row, (None,) * 3)), False)
            self.assertIs(is_state((row, (None,) * 2)), False)


def expected(state, rule, figure, event):
    """The state behind the event, or the word or the number of why not, word by word."""
    row, pending = state
    kind, robot = event[:2]
    if robot >= len(row):
        return "robot"
    after = list(pending)
    if kind == "look":
        if after[robot] is not None:
            return "pending"
        after[robot] = step_in(row, rule, figure, robot, event[2])
        return row, tuple(after)
    if after[robot] is None:
        return "pending"
    (x, y), (a, b) = row[robot], after[robot]
    after[robot] = None
    if (a, b) != (0, 0) and (x + a, y + b) in row:
        return robot
    places = list(row)
    places[robot] = (x + a, y + b)
    return tuple(places), tuple(after)


class Happen(unittest.TestCase):
    def done(self, state, rule, figure, event):
        try:
            return happen(state, rule, figure, event)
        except Clash as clash:
            return clash.robot
        except InvalidEvent as error:
            self.assertIs(error.event, event)
            self.assertEqual(set(vars(error)), {"event", "reason"})
            return error.reason

    def test_word_by_word(self):
        rng = random.Random(77)
        found = {}
        for _ in range(150):
            row, rule = draw_row(rng), draw_any_rule(rng)
            figure = draw_figure(rng, len(row))
            state = late_start(row)
            for _ in range(30):
                robot = rng.randint(0, len(row))
                event = rng.choice([("do", robot), ("do", robot), ("look", robot, rng.randint(0, 3))])
                due = expected(state, rule, figure, event)
                self.assertEqual(self.done(state, rule, figure, event), due)
                if isinstance(due, tuple):
                    self.assertTrue(is_state(due))
                    state = due
                word = due if isinstance(due, str) else type(due).__name__
                found[word] = found.get(word, 0) + 1
        self.assertEqual(set(found), {"robot", "pending", "tuple", "int"})
        self.assertGreater(min(found.values()), 20)

    def test_looks_and_does(self):
        state = happen(late_start(ROW), EAST, None, ("look", 1, 1))
        self.assertEqual(state, (ROW, (None, (0, -1), None)))
        state = happen(state=state, rule=STAY, figure=ELL, event=("look", 0, 0))
        self.assertEqual(state, (ROW, ((0, 0), (0, -1), None)))
        state = happen(state, STAY, None, ("do", 0))
        self.assertEqual(state, (ROW, (None, (0, -1), None)))
        self.assertEqual(happen(state, STAY, None, ("do", 1)), (((0, 0), (3, -1), (0, 5)), (None, None, None)))

    def test_done_late(self):
        # The step is that of the look, wherever the others are by now; somebody may stand in its way.
        row = ((0, 0), (2, 0))
        state = happen(happen(late_start(row), EAST, None, ("look", 0, 0)), EAST, None, ("look", 1, 2))
        state = happen(state, EAST, None, ("do", 1))
        self.assertEqual(state, (((0, 0), (1, 0)), ((1, 0), None)))
        with self.assertRaises(Clash) as caught:
            happen(state, EAST, None, ("do", 0))
        self.assertEqual(vars(caught.exception), {"robot": 0})

    def test_first_reason(self):
        state = (ROW, ((1, 0), None, (0, 0)))
        for event in NO_EVENTS:
            self.refused("shape", state, event)
        for event in (("do", 3), ("look", 3, 0), ("do", 10**30)):
            self.refused("robot", state, event)
        for event in (("do", 1), ("look", 0, 0), ("look", 2, 1)):
            self.refused("pending", state, event)

    def refused(self, reason, state, event):
        with self.assertRaises(InvalidEvent, msg=event) as caught:
            happen(state, EAST, None, event)
        self.assertIs(caught.exception.event, event)
        self.assertEqual(caught.exception.reason, reason)

    def test_wrong_inputs(self):
        good = (late_start(ROW), EAST, None, None)
        for word, at, wrongs in (
            ("state", 0, NO_STATES + [(row, (None,) * 3) for row in BAD_ROWS]),
            ("rule", 1, [None, "", (), EAST[:3], list(EAST), Motion(0, 0, 0)]),
            ("figure", 2, BAD_STANDINGS[1:]),
        ):
            for wrong in wrongs:
                given = good[:at] + (wrong,) + (7,) * (3 - at)
                for call in (lambda: happen(*given), lambda: happen(**dict(zip(("state", "rule", "figure", "event"), given)))):
                    with self.assertRaises(NotUsable) as caught:
                        call()
                    self.assertEqual(vars(caught.exception), {"word": word, "at": -1}, given)

    def test_carried(self):
        # (G8): late looks are carried, if the frames of their events are carried likewise.
        rng = random.Random(78)
        for _ in range(60):
            row, rule, motion = draw_row(rng), rng.choice(RULES), (rng.randint(1, 3), 4, -9)
            figure = draw_figure(rng, len(row))
            state, other = late_start(row), late_start(carried_row(motion, row))
            for _ in range(20):
                robot, frame = rng.randrange(len(row)), rng.randint(0, 3)
                look = state[1][robot] is None
                event = ("look", robot, frame) if look else ("do", robot)
                moved = ("look", robot, (frame - motion[0]) % 4) if look else event
                come, came = self.done(state, rule, figure, event), self.done(other, rule, figure, moved)
                if isinstance(come, int):
                    self.assertEqual(come, came)
                    break
                state, other = come, came
                self.assertEqual(other[0], carried_row(motion, state[0]))
                due = [None if step is None else turned(motion[0], step) for step in state[1]]
                self.assertEqual(other[1], tuple(due))

    def test_one_sequence(self):
        # (G9): from late_start the standings come in the sequence of the course, also if steps are done late.
        rng = random.Random(79)
        go = read_rule("when rank = 0 and far < 9 go along(-sumx, -sumy)")
        for many in (3, 4, 5):
            standing, figure = draw_standing(rng, many, UNEVEN), draw_standing(rng, many, UNEVEN)
            for rule in (HOUSE, go):
                _, log = course_of(standing, rule, figure, 25)
                state, at = late_start(tuple(rng.sample(standing, many))), 0
                while at < len(log) - 1:
                    robot = rng.randrange(many)
                    look = state[1][robot] is None
                    state = happen(state, rule, figure, ("look", robot, rng.randint(0, 3)) if look else ("do", robot))
                    at += standing_by(state[0]) != log[at]
                    self.assertEqual(standing_by(state[0]), log[at])


class Mends(unittest.TestCase):
    def test_pushed(self):
        for row in shuffled_rows(78):
            for robot in (0, len(row) - 1):
                place = (row[robot][0] + 50, 7)
                due = row[:robot] + (place,) + row[robot + 1:]
                self.assertEqual(pushed(row, robot, place), due)
                self.assertEqual(pushed(place=place, robot=robot, row=row), due)
                # Where it stands itself, nobody else does.
                self.assertEqual(pushed(row, robot, row[robot]), row)
                for other in row:
                    if other != row[robot]:
                        self.refused("place", pushed, row, robot, other)

    def test_joined(self):
        for row in shuffled_rows(79):
            if len(row) < 10:
                self.assertEqual(joined(row, (99, -99)), row + ((99, -99),))
                self.assertEqual(joined(place=(99, -99), row=row), row + ((99, -99),))
                self.refused("place", joined, row, row[0])
                self.refused("place", joined, row, row[-1])
            else:
                self.refused("row", joined, row, (99, -99))
                self.refused("row", joined, row, row[0])

    def test_dropped(self):
        for row in shuffled_rows(80):
            for robot in range(len(row)):
                if len(row) == 2:
                    self.refused("row", dropped, row, robot)
                else:
                    due = tuple(place for place in row if place != row[robot])
                    self.assertEqual(dropped(row, robot), due)
                    self.assertEqual(dropped(robot=robot, row=row), due)
        self.refused("row", dropped, ((0, 0), (1, 0)), None)

    def test_wrong_inputs(self):
        for wrong in BAD_ROWS:
            self.refused("row", pushed, wrong, None, None)
            self.refused("row", joined, wrong, None)
            self.refused("row", dropped, wrong, None)
        for wrong in (None, True, False, -1, 3, "0", (0,), 10**30):
            self.refused("robot", pushed, ROW, wrong, None)
            self.refused("robot", dropped, ROW, wrong)
        for wrong in BAD_PLACES:
            self.refused("place", pushed, ROW, 0, wrong)
            self.refused("place", joined, ROW, wrong)
        self.refused("place", pushed, ((1, 0), (5, 5)), 0, (True, 0))
        self.refused("row", joined, TEN, None)
        self.refused("row", joined, ELEVEN, (0, 9))
        self.assertEqual(joined(SQUARE, (0, -1)), SQUARE + ((0, -1),))

    def refused(self, word, call, *given):
        with self.assertRaises(NotUsable) as caught:
            call(*given)
        self.assertEqual(vars(caught.exception), {"word": word, "at": -1}, given)


if __name__ == "__main__":
    unittest.main()
