"""[89] to [91]: stands, what comes next, reach; [93]: rounds; of [94] what speaks of these."""

import itertools
import random
import unittest

from compassless.errors import Clash, NotUsable, TooMany
from compassless.forms import alike
from compassless.lots import is_lot
from compassless.matching import motion_of
from compassless.motions import carried_row
from compassless.nexts import nexts_of, stands_after
from compassless.reaches import reach_of
from compassless.readings import read_rule
from compassless.rounds import round_lots, rounds_of
from compassless.ruletrees import HOUSE
from compassless.standings import standing_by
from compassless.stands import is_done, stand_of, stand_turn
from compassless.ticks import tick
from compassless.turns import turned
from tests.lotsamples import EAST, RULES, STAY, draw_any_rule, draw_lots
from tests.samples import BAD_INTEGERS, BAD_ROWS, BAR, ELEVEN, ELL, HUGE, PLUS, SQUARE, TEE, ZIG

PAIR = ((0, 0), (2, 0))
GO = read_rule("when seen(2, 0) = 1 go east")
# Robots that stay together, whoever is woken.
CLOSE = [
    read_rule("when far < 3 go along(sumx, sumy)"),
    read_rule("when seen(1, 0) = 0 and near(2) = many - 1 go east"),
    read_rule("when rank = 0 go along(sumx, sumy)\nwhen near(1) = many - 1 go north"),
    read_rule("when far < 4 and seen(0, 1) = 0 and done = 0 go north"),
    read_rule("when done = 1 go along(sumx, sumy)\nelse go house"),
    read_rule("when far <= 2 and rank = 1 go west"),
]
MOTIONS = ((1, 3, 0), (2, -5, 7), (3, -1, -2), (0, 4, -9))


def draw_short_row(rng, most=4, wide=3):
    cells = [(x, y) for x in range(wide + 1) for y in range(wide)]
    return tuple(rng.sample(cells, rng.randint(2, most)))


def draw_same(rng, row):
    """A standing of as many places, mostly a small one."""
    cells = [(x, y) for x in range(3) for y in range(3)]
    return tuple(sorted(rng.sample(cells, len(row))))


def short_rows(seed, times, most=4):
    rng = random.Random(seed)
    return [draw_short_row(rng, most) for _ in range(times)]


def shifted(row):
    low, under = min(x for x, _ in row), min(y for _, y in row)
    return tuple((x - low, y - under) for x, y in row)


def expected_stands(row):
    return [shifted(tuple(turned(turn, place) for place in row)) for turn in range(4)]


def every_lot(many):
    """All lots of one robot or more, ascending."""
    found = []
    for frames in itertools.product([None, 0, 1, 2, 3], repeat=many):
        lot = tuple((robot, frame) for robot, frame in enumerate(frames) if frame is not None)
        if lot:
            found.append(lot)
    return sorted(found)


def expected_nexts(row, rule, figure):
    found = []
    for lot in every_lot(len(row)):
        try:
            found.append((lot, min(expected_stands(tick(row, rule, figure, lot)))))
        except Clash:
            found.append((lot, None))
    return tuple(found)


NOT_SHORT = BAD_ROWS + [ELEVEN[:5], PLUS, ELEVEN[:10]]


class Refusals(unittest.TestCase):
    def refused(self, word, call, *given):
        with self.assertRaises(NotUsable) as caught:
            call(*given)
        self.assertEqual(vars(caught.exception), {"word": word, "at": -1}, given)


class Stands(Refusals):
    def test_word_by_word(self):
        turns = set()
        for row in short_rows(89, 200):
            due = expected_stands(row)
            self.assertEqual(len(set(due)), 4)
            self.assertEqual(stand_of(row), min(due))
            self.assertEqual(stand_of(row=row), min(due))
            self.assertEqual(stand_turn(row), due.index(min(due)))
            self.assertEqual(stand_turn(row=row), stand_turn(row))
            turns.add(stand_turn(row))
            # A stand is its own, by the turn 0.
            self.assertEqual((stand_of(min(due)), stand_turn(min(due))), (min(due), 0))
        self.assertEqual(turns, {0, 1, 2, 3})

    def test_one_stand(self):
        # [94]: two rows have one stand exactly if motion_of finds a motion.
        rows = short_rows(90, 60) + [row[::-1] for row in short_rows(90, 20)]
        same = 0
        for one, two in itertools.combinations(rows, 2):
            self.assertEqual(stand_of(one) == stand_of(two), motion_of(one, two) is not None)
            same += stand_of(one) == stand_of(two)
        self.assertGreater(same, 5)
        for row in rows:
            for motion in MOTIONS:
                other = carried_row(motion, row)
                self.assertEqual(stand_of(other), stand_of(row))
                self.assertEqual((stand_turn(other) + motion[0] - stand_turn(row)) % 4, 0)

    def test_robots_keep_their_numbers(self):
        self.assertEqual(stand_of(((2, 0), (0, 0))), ((0, 0), (0, 2)))
        self.assertEqual(stand_of(SQUARE), ((0, 0), (0, 1), (1, 0), (1, 1)))
        self.assertEqual(stand_of((SQUARE[0], SQUARE[2], SQUARE[1], SQUARE[3])), ((0, 0), (1, 0), (0, 1), (1, 1)))
        self.assertEqual(stand_of(((HUGE, HUGE), (HUGE, -HUGE))), ((0, 0), (0, 2 * HUGE)))

    def test_done(self):
        found = set()
        rng = random.Random(91)
        for row in short_rows(92, 150):
            figure = draw_same(rng, row)
            due = alike(standing_by(row), figure)
            self.assertIs(is_done(row, figure), due)
            self.assertIs(is_done(figure=figure, row=stand_of(row)), due)
            found.add(due)
        self.assertEqual(found, {True, False})

    def test_wrong_inputs(self):
        for wrong in NOT_SHORT:
            self.refused("row", stand_of, wrong)
            self.refused("row", stand_turn, wrong)
            self.refused("row", is_done, wrong, None)
        for wrong in (None, SQUARE, ((0, 0), (1, 0)), ELL[::-1], list(ELL)):
            self.refused("figure", is_done, BAR, wrong)


class Nexts(Refusals):
    def test_word_by_word(self):
        rng = random.Random(93)
        clashes = moves = 0
        for row in short_rows(94, 60, 3):
            rule, figure = rng.choice([rng.choice(CLOSE), draw_any_rule(rng)]), draw_same(rng, row)
            due = expected_nexts(row, rule, figure)
            self.assertEqual(len(due), 5 ** len(row) - 1)
            self.assertEqual(nexts_of(row, rule, figure), due)
            self.assertEqual(nexts_of(figure=figure, rule=rule, row=row), due)
            stands = sorted({stand for _, stand in due if stand is not None})
            self.assertEqual(stands_after(row, rule, figure), tuple(stands))
            clashes += None in dict(due).values()
            moves += len(stands) > 1
        self.assertGreater(min(clashes, moves), 10)

    def test_lots_are_lots(self):
        for many in (2, 3):
            found = [lot for lot, _ in nexts_of(ELL[:many], STAY, ELL[:many])]
            self.assertEqual(found, sorted(set(found)))
            self.assertTrue(all(is_lot(many, lot) and lot for lot in found))

    def test_four_robots(self):
        rng = random.Random(95)
        for row in [row for row in short_rows(96, 60) if len(row) == 4][:8]:
            rule, figure = rng.choice(CLOSE + RULES), draw_same(rng, row)
            due = {stand for _, stand in expected_nexts(row, rule, figure) if stand is not None}
            self.assertEqual(stands_after(row, rule, figure), tuple(sorted(due)))
            self.assertEqual(stands_after(figure=figure, rule=rule, row=row), tuple(sorted(due)))

    def test_a_row_and_its_stand(self):
        # [94]: they have the same stands_after: the stands in nexts_of.
        rng = random.Random(97)
        for row in short_rows(98, 80):
            rule, figure = rng.choice(CLOSE + RULES), draw_same(rng, row)
            self.assertEqual(stands_after(row, rule, figure), stands_after(stand_of(row), rule, figure))

    def test_edges(self):
        self.assertEqual(nexts_of(PAIR, GO, PAIR)[3], (((0, 0), (1, 2)), None))
        self.assertEqual(stands_after(PAIR, GO, PAIR), (((0, 0), (0, 1)), ((0, 0), (0, 2))))
        # A lot by which nobody steps brings the stand of the row itself.
        self.assertEqual(stands_after(((5, 5), (5, 7), (5, 6)), STAY, BAR), (((0, 0), (0, 2), (0, 1)),))
        # Each lot clashes.
        self.assertEqual(stands_after(((0, 0), (1, 0)), read_rule("else go along(sumx, sumy)"), PAIR), ())
        self.assertEqual({stand for _, stand in nexts_of(((0, 0), (1, 0)), CLOSE[0], PAIR)}, {None})

    def test_wrong_inputs(self):
        for wrong in NOT_SHORT:
            for call in (nexts_of, stands_after):
                self.refused("row", call, wrong, None, None)
        self.refused("row", nexts_of, SQUARE, None, None)
        for wrong in (None, "", (), list(EAST), EAST[:3]):
            for call in (nexts_of, stands_after):
                self.refused("rule", call, ELL, wrong, None)
        for wrong in (None, SQUARE, PAIR, ELL[::-1]):
            for call in (nexts_of, stands_after):
                self.refused("figure", call, ELL, EAST, wrong)


def expected_reach(row, rule, figure, limit):
    """All stands, or None if there are more than limit."""
    found, waiting = {stand_of(row)}, [stand_of(row)]
    while waiting and len(found) <= limit:
        for stand in stands_after(waiting.pop(0), rule, figure):
            if stand not in found:
                found.add(stand)
                waiting.append(stand)
    return tuple(sorted(found)) if len(found) <= limit else None


class Reach(Refusals):
    def test_word_by_word(self):
        rng = random.Random(99)
        sizes = set()
        for row in short_rows(100, 60):
            rule, figure = rng.choice(CLOSE + RULES), draw_same(rng, row)
            due = expected_reach(row, rule, figure, 40)
            if due is None:
                self.many(40, row, rule, figure)
                continue
            self.assertEqual(reach_of(row, rule, figure, 40), due)
            self.assertEqual(reach_of(limit=len(due), figure=figure, rule=rule, row=row), due)
            self.assertEqual(reach_of(stand_of(row), rule, figure, 400), due)
            if len(due) > 1:
                self.many(len(due) - 1, row, rule, figure)
            sizes.add(len(due))
        self.assertGreater(len(sizes), 5)

    def many(self, limit, row, rule, figure):
        with self.assertRaises(TooMany) as caught:
            reach_of(row, rule, figure, limit)
        self.assertEqual(vars(caught.exception), {"limit": limit})

    def test_edges(self):
        self.assertEqual(reach_of(SQUARE, STAY, SQUARE, 1), (SQUARE,))
        # Of a done stand, too, others come.
        far = ((0, 0), (0, 3))
        rule = read_rule("when far = 2 go east\nelse go stay")
        self.assertEqual(reach_of(PAIR, rule, PAIR, 40), expected_reach(PAIR, rule, PAIR, 40))
        self.assertGreater(len(reach_of(PAIR, rule, PAIR, 40)), 1)
        self.many(1, PAIR, rule, PAIR)
        self.many(400, far, EAST, PAIR)
        self.assertEqual(reach_of(((0, 0), (0, 1), (2, 0)), HOUSE, ELL, 2), (ELL, ((0, 0), (0, 1), (2, 0))))
        self.many(1, ((0, 0), (0, 1), (2, 0)), HOUSE, ELL)

    def test_wrong_inputs(self):
        for wrong in NOT_SHORT:
            self.refused("row", reach_of, wrong, None, None, None)
        self.refused("rule", reach_of, ZIG, None, None, None)
        for wrong in (None, BAR, ZIG[::-1]):
            self.refused("figure", reach_of, ZIG, EAST, wrong, None)
        for wrong in BAD_INTEGERS + [0, -1]:
            self.refused("limit", reach_of, ZIG, EAST, TEE, wrong)


class Rounds(Refusals):
    def test_word_by_word(self):
        rng = random.Random(101)
        counts = set()
        for _ in range(300):
            many = rng.randint(2, 10)
            lots = draw_lots(rng, many, rng.randint(0, 30))
            due, woken = 0, set()
            for lot in lots:
                woken |= {robot for robot, _ in lot}
                if len(woken) == many:
                    due, woken = due + 1, set()
            self.assertEqual(rounds_of(many, lots), due)
            self.assertEqual(rounds_of(lots=lots, many=many), due)
            counts.add(due)
        self.assertGreater(len(counts), 8)

    def test_edges(self):
        self.assertEqual([rounds_of(2, lots) for lots in ((), ((),), (((0, 0), (1, 0)),) * 3)], [0, 0, 3])
        self.assertEqual(rounds_of(3, (((0, 0),), ((0, 1),), ((2, 3),), (), ((1, 0), (2, 0)), ((2, 0),))), 1)

    def test_round_lots(self):
        for many in range(2, 11):
            for rounds in (0, 1, 5):
                lots = round_lots(many, rounds)
                self.assertEqual(lots, tuple(((robot, 0),) for robot in range(many)) * rounds)
                self.assertEqual(rounds_of(many, lots), rounds)
                self.assertEqual(rounds_of(many, lots[:-1]), max(0, rounds - 1))
        self.assertEqual(round_lots(rounds=1, many=2), (((0, 0),), ((1, 0),)))
        self.assertEqual(len(round_lots(10, 200)), 2000)

    def test_wrong_inputs(self):
        for wrong in BAD_INTEGERS + [-1, 0, 1, 11]:
            self.refused("many", rounds_of, wrong, None)
            self.refused("many", round_lots, wrong, None)
        for wrong in (None, [], 0, "", (None,), ((0, 0),), (((2, 0),),), (((1, 0), (0, 0)),), (((0, True),),)):
            self.refused("lots", rounds_of, 2, wrong)
        for wrong in BAD_INTEGERS + [-1]:
            self.refused("rounds", round_lots, 2, wrong)


if __name__ == "__main__":
    unittest.main()
