"""[91], [92] and [94]: verdicts and their checker; (G12)."""

import random
import unittest

from compassless.errors import Clash, InvalidPaper, NotUsable, TooMany
from compassless.fitting import fits
from compassless.floorclasses import Motion
from compassless.homes import home_of
from compassless.lots import is_lot
from compassless.moving import moves_of
from compassless.nexts import nexts_of
from compassless.reaches import reach_of
from compassless.readings import read_rule
from compassless.rounds import round_lots, rounds_of
from compassless.ruletrees import HOUSE
from compassless.runs import run_of
from compassless.standings import side_of, standing_by
from compassless.stands import is_done, stand_of
from compassless.ticks import tick
from compassless.verdictchecker import lets_verdict
from compassless.verdicts import verdict_of
from tests.lotsamples import EAST, RULES, STAY, draw_lot
from tests.samples import BAD_INTEGERS, BAR, ELL, LINE, SQUARE, TEE, ZIG
from tests.test_stands import CLOSE, NOT_SHORT, draw_same, draw_short_row, every_lot

FAR = ((0, 0), (0, 1), (2, 0))
OUT = ((0, 0), (1, 1), (2, 0), (3, 1))
PAIR = ((0, 0), (0, 2))
# Two that go apart, back, or round for ever; some of these reach the figure by all ways, some by luck.
MORE = [
    read_rule("when far < 3 go along(-sumx, -sumy)"),
    read_rule("when far = 1 go along(-sumx, -sumy)"),
    read_rule("when far < 4 and done = 0 go along(-sumx, -sumy)"),
    read_rule("when done = 0 and far < 3 go along(-sumy, sumx)"),
    read_rule("when done = 0 and rank = 0 and far < 4 go along(-sumx, -sumy)"),
    read_rule("when done = 0 and rank = 0 and 2 < far go along(sumx, sumy)"),
    read_rule("when 3 < far and near(1) = 0 go along(sumx, sumy)"),
    read_rule("when done = 1 and sumx = 2 go east\nwhen far = 1 and sumx < 0 go west"),
    read_rule("when wide = 0 and high < 3 go along(0, -sumy)"),
    read_rule("when done = 0 and rank = 0 and far < 5 go along(-sumy, sumx)"),
]


WAYS = ("east", "north", "along(sumx, sumy)", "along(-sumx, -sumy)", "along(sumy, -sumx)", "house", "stay")
TESTS = ("far < 3", "done = 0", "rank = 0", "rank = 1", "seen(1, 0) = 1", "seen(0, 1) = 0", "near(1) = 0", "wide < high")
TESTS += ("near(2) < many - 1", "twins = 1", "far <= 2", "2 < far", "sumx = 0", "sumx < sumy")


def draw_small_rule(rng):
    """A rule of one to three lines of these tests and ways."""
    lines = []
    for _ in range(rng.randint(1, 3)):
        tests = " and ".join(rng.sample(TESTS, rng.randint(1, 3)))
        lines.append(f"when {tests} go {rng.choice(WAYS)}")
    return read_rule("\n".join(lines))


def cases(seed, times, most=4):
    """Rows, rules and figures with a reach of at most 60."""
    rng = random.Random(seed)
    while times:
        row = draw_short_row(rng, most)
        rule, figure = rng.choice(CLOSE + MORE + [rng.choice(RULES), draw_small_rule(rng)] * 5), draw_same(rng, row)
        try:
            reach = reach_of(row, rule, figure, 60)
        except TooMany:
            continue
        times -= 1
        yield rng, row, rule, figure, reach


def long_cases(seed, times, figures=(ELL, BAR, TEE, LINE, SQUARE)):
    """The same by HOUSE, from homes and from a near held row, so that there are several levels."""
    rng = random.Random(seed)
    for _ in range(times):
        figure = rng.choice(figures)
        standing = rng.choice([OUT, home_of(SQUARE, 2)]) if figure == SQUARE else home_of(figure, rng.randint(1, 4))
        row = tuple(rng.sample(standing, len(standing)))
        yield rng, row, HOUSE, figure, reach_of(row, HOUSE, figure, 400)


def outcomes_of(stand, rule, figure):
    """All lots, each with the stand that comes, or None for a clash."""
    if len(stand) < 4:
        return dict(nexts_of(stand, rule, figure))
    found = {}
    for lot in every_lot(4):
        try:
            found[lot] = stand_of(tick(stand, rule, figure, lot))
        except Clash:
            found[lot] = None
    return found


def is_won(row, rule, figure, reach):
    """Whether the figure is made whatever comes: a least fixed point of greatest fixed points."""
    known = {stand: outcomes_of(stand, rule, figure) for stand in reach}
    won = {s for s in reach if is_done(s, figure) and not moves_of(standing_by(s), rule, figure)}
    before = None
    while before != won:
        before = set(won)
        for watch in range(len(row)):
            kept = {s for s in reach if not is_done(s, figure)}
            size = -1
            while size != len(kept):
                size = len(kept)
                kept = {s for s in kept if all(leads(lot, c, watch, won, kept) for lot, c in known[s].items())}
            won |= kept
    return stand_of(row) in won


def leads(lot, come, watch, won, kept):
    awake = watch in [robot for robot, _ in lot]
    return come in won or (not awake and come in kept)


class Verdicts(unittest.TestCase):
    def test_accepted_and_right(self):
        found = {}
        for _, row, rule, figure, reach in cases(91, 220, 3):
            paper = verdict_of(row, rule, figure, len(reach))
            self.assertEqual(verdict_of(limit=400, figure=figure, rule=rule, row=row)[0], paper[0])
            self.assertEqual(lets_verdict(row, rule, figure, paper), paper[0])
            self.assertEqual(lets_verdict(thing=paper, figure=figure, rule=rule, row=row), paper[0])
            self.assertEqual(paper[0] == "yes", is_won(row, rule, figure, reach), (row, rule, figure))
            self.check_shape(row, paper, reach)
            word = paper[0] if paper[0] == "yes" else paper[1]
            found[word] = found.get(word, 0) + 1
        self.assertGreaterEqual(set(found), {"yes", "clash", "leaves", "ring"})
        self.assertGreater(found["yes"], 10)

    def check_shape(self, row, paper, reach):
        if paper[0] == "yes":
            self.assertEqual(tuple(stand for stand, _, _ in paper[1]), reach)
            self.assertEqual(len(paper), 2)
        else:
            self.assertEqual((paper[0], len(paper)), ("no", 4 if paper[1] == "ring" else 3))
            for lots in paper[2:]:
                self.assertIsInstance(lots, tuple)
                self.assertTrue(all(is_lot(len(row), lot) and lot for lot in lots))

    def test_four_robots(self):
        found = set()
        for _, row, rule, figure, reach in cases(92, 120):
            if len(row) == 4:
                paper = verdict_of(row, rule, figure, 60)
                self.assertEqual(lets_verdict(row, rule, figure, paper), paper[0])
                if len(reach) < 9:
                    self.assertEqual(paper[0] == "yes", is_won(row, rule, figure, reach))
                found.add(paper[:1] if paper[0] == "yes" else paper[1])
        self.assertGreaterEqual(found, {("yes",), "clash", "ring"})

    def test_what_it_states(self):
        # (G12): by any r rounds the figure is made, or by the told lots it is not.
        answers = set()
        for rng, row, rule, figure, _ in list(cases(93, 120)) + list(long_cases(98, 20)):
            paper = verdict_of(row, rule, figure, 400)
            answers.add(paper[0])
            if paper[0] == "yes":
                for _ in range(4):
                    self.play_yes(rng, row, rule, figure, paper[1])
            else:
                self.play_no(row, rule, figure, *paper[1:])
        self.assertEqual(answers, {"yes", "no"})

    def play_yes(self, rng, row, rule, figure, lines):
        rounds = {stand: level for stand, level, _ in lines}[stand_of(row)]
        lots = []
        while rounds_of(len(row), tuple(lots)) < rounds:
            lots.append(draw_lot(rng, len(row)))
        for given in (tuple(lots), round_lots(len(row), rounds)):
            log, robot = run_of(row, rule, figure, given)
            self.assertEqual((robot, is_done(log[-1], figure)), (-1, True))
            self.assertEqual(moves_of(standing_by(log[-1]), rule, figure), ())

    def play_no(self, row, rule, figure, word, lots, ring=()):
        log, robot = run_of(row, rule, figure, lots + ring * 3)
        if word == "ring":
            # The second time round the frames are those of the row as it lies by then.
            self.assertEqual(run_of(row, rule, figure, lots + ring)[1], -1)
            return
        self.assertEqual(is_done(log[len(lots) - 1], figure), word == "leaves")
        self.assertEqual(robot >= 0, len(log) == len(lots))
        self.assertTrue(robot >= 0 or log[-1] != log[-2])

    def test_house(self):
        # [94]: "no" if the row does not fit the figure, otherwise, by HOUSE, "yes".
        rng, answers = random.Random(94), set()
        for _ in range(60):
            row = draw_short_row(rng)
            figure = draw_same(rng, row)
            try:
                paper = verdict_of(row, HOUSE, figure, 150)
            except TooMany:
                self.assertTrue(fits(standing_by(row), figure))
                continue
            self.assertEqual(paper[0] == "yes", fits(standing_by(row), figure))
            self.assertEqual(lets_verdict(row, HOUSE, figure, paper), paper[0])
            answers.add((len(row), paper[0]))
        # Three fit everything, two only what is alike.
        self.assertEqual(answers, {(many, word) for many in (2, 3, 4) for word in ("yes", "no")} - {(3, "no")})

    def test_not_fitting(self):
        for row, figure in ((SQUARE, ZIG), (LINE, SQUARE), (PAIR, ((0, 0), (1, 1))), (ZIG[::-1], TEE)):
            for rule in CLOSE + MORE + RULES:
                try:
                    self.assertEqual(verdict_of(row, rule, figure, 30)[0], "no")
                except TooMany:
                    pass

    def test_edges(self):
        self.assertEqual(verdict_of(ELL[::-1], STAY, ELL, 1), ("yes", ((stand_of(ELL[::-1]), 0, -1),)))
        self.assertEqual(verdict_of(FAR, HOUSE, ELL, 2), ("yes", ((ELL, 0, -1), (FAR, 1, 2))))
        # Done, but somebody moves.
        paper = verdict_of(PAIR, MORE[0], PAIR, 60)
        self.assertEqual((paper[:2], len(paper[2])), (("no", "leaves"), 1))
        # Nobody moves, and the figure does not stand.
        paper = verdict_of(BAR, STAY, ELL, 1)
        self.assertEqual((paper[:3], len(paper[3])), (("no", "ring", ()), 1))
        # One step from a clash.
        paper = verdict_of(((0, 0), (1, 0)), read_rule("else go along(sumx, sumy)"), PAIR, 1)
        self.assertEqual((paper[:2], len(paper[2])), (("no", "clash"), 1))

    def test_rings_of_several_stands(self):
        # One robot can be woken in such a ring only at other stands than the others.
        go = "when rank = 0 and far <= 2 go along(sumy, -sumx)"
        both = "when far < 3 go along(-sumx, -sumy)\nwhen rank = 0 and wide < high go east\n"
        both += "when far <= 2 and seen(0, 1) = 0 and wide < high go north"
        for text, row, figure in (
            (go, ((1, 1), (1, 0), (0, 1)), ((0, 0), (2, 0), (2, 1))),
            (go.replace("and", "and twins = 1 and"), ((2, 0), (1, 1), (2, 1)), ((0, 1), (1, 1), (2, 2))),
            (both, ((2, 0), (0, 0), (0, 1)), ((0, 2), (1, 2), (2, 2))),
        ):
            rule = read_rule(text)
            paper = verdict_of(row, rule, figure, 60)
            self.assertEqual(paper[:2], ("no", "ring"))
            self.assertEqual(lets_verdict(row, rule, figure, paper), "no")
            self.assertFalse(is_won(row, rule, figure, reach_of(row, rule, figure, 60)))

    def test_too_many(self):
        for _, row, rule, figure, reach in cases(95, 40):
            if len(reach) > 1:
                with self.assertRaises(TooMany) as caught:
                    verdict_of(row, rule, figure, len(reach) - 1)
                self.assertEqual(vars(caught.exception), {"limit": len(reach) - 1})
        with self.assertRaises(TooMany) as caught:
            verdict_of(PAIR, EAST, PAIR, 400)
        self.assertEqual(vars(caught.exception), {"limit": 400})

    def test_wrong_inputs(self):
        for wrong in NOT_SHORT:
            self.refused("row", verdict_of, wrong, None, None, None)
            self.refused("row", lets_verdict, wrong, None, None, None)
        for wrong in (None, "", (), EAST[:3], list(EAST)):
            self.refused("rule", verdict_of, ELL, wrong, None, None)
            self.refused("rule", lets_verdict, ELL, wrong, None, None)
        for wrong in (None, SQUARE, ELL[::-1]):
            self.refused("figure", verdict_of, BAR, EAST, wrong, None)
            self.refused("figure", lets_verdict, BAR, EAST, wrong, None)
        for wrong in BAD_INTEGERS + [0, -1]:
            self.refused("limit", verdict_of, BAR, EAST, ELL, wrong)

    def refused(self, word, call, *given):
        with self.assertRaises(NotUsable) as caught:
            call(*given)
        self.assertEqual(vars(caught.exception), {"word": word, "at": -1}, given)


def expected_yes(row, rule, figure, lines):
    """The first entry of [92] that applies to a "yes", word by word."""
    stands = [stand_of(line[0]) for line in lines]
    if stand_of(row) not in stands:
        return "first", -1
    told = {}
    for stand, line in reversed(list(zip(stands, lines))):
        told[stand] = line[1:]
    for k, stand in enumerate(stands):
        level, watch = told[stand]
        done, outcomes = is_done(stand, figure), outcomes_of(stand, rule, figure)
        comes = {come for come in outcomes.values() if come is not None}
        checks = [
            ("twice", stand in stands[:k]),
            ("done", (level, watch) != (0, -1) if done else level == 0 or not 0 <= watch < len(row)),
            ("moves", done and moves_of(standing_by(stand), rule, figure) != ()),
            ("untold", not comes <= set(told)),
        ]
        for word, wrong in checks:
            if wrong:
                return word, k
        if any(told[come][0] > level for come in comes):
            return "level", k
        if any(told[come][0] == level and told[come][1] != watch for come in comes):
            return "watch", k
        for lot, come in outcomes.items():
            if watch in dict(lot) and (come is None or told[come][0] == level):
                return "watch", k
    return None


def expected_no(row, rule, figure, word, lots, ring=()):
    """The first entry of [92] that applies to a "no", word by word."""
    here, ahead, clashed = row, row, False
    start = None
    for j, lot in enumerate(lots + ring):
        if j == len(lots):
            start = here
        ahead = here
        try:
            here, clashed = tick(ahead, rule, figure, lot), False
        except Clash:
            clashed = True
            if word == "ring" or j < len(lots) - 1:
                return "clash", j
        if j >= len(lots) and is_done(ahead, figure):
            return "done", j
    if word == "clash":
        return None if lots and clashed and not is_done(ahead, figure) else ("end", -1)
    if word == "leaves":
        return None if lots and is_done(ahead, figure) and (clashed or here != ahead) else ("end", -1)
    if stand_of(start or here) != stand_of(here):
        return "back", -1
    return ("robots", -1) if {robot for lot in ring for robot, _ in lot} != set(range(len(row))) else None


def mutated(rng, paper, row):
    """The paper with one thing changed; it keeps its shape."""
    if paper[0] == "yes":
        lines = [list(line) for line in paper[1]]
        k = rng.randrange(len(lines))
        change = rng.randrange(6)
        if change == 0:
            lines[k][1] = max(0, lines[k][1] + rng.choice([-2, -1, 1, 2]))
        elif change == 1:
            lines[k][2] = rng.randint(-1, len(row))
        elif change == 2:
            del lines[k]
        elif change == 3:
            lines.insert(rng.randint(0, len(lines)), [lines[k][0], rng.randint(0, 3), rng.randint(-1, 1)])
        elif change == 4:
            lines[k][0] = draw_short_row(rng)[: len(row)] if rng.random() < 0.5 else lines[k][0][::-1]
        else:
            rng.shuffle(lines)
        lines = [line for line in lines if len(line[0]) == len(row)]
        return "yes", tuple(map(tuple, lines))
    told = [list(lots) for lots in paper[2:]]
    lots = rng.choice(told)
    lot = draw_lot(rng, len(row)) or ((0, 0),)
    if lots and rng.random() < 0.5:
        del lots[rng.randrange(len(lots))]
    else:
        lots.insert(rng.randint(0, len(lots)), lot)
    if rng.random() < 0.2:
        lots[:] = []
    word = rng.choice(["clash", "leaves"]) if len(told) == 1 and rng.random() < 0.3 else paper[1]
    return ("no", word) + tuple(map(tuple, told))


class Checker(unittest.TestCase):
    def judged(self, row, rule, figure, thing):
        try:
            self.assertEqual(lets_verdict(row, rule, figure, thing), thing[0])
            return None
        except InvalidPaper as error:
            self.assertEqual(set(vars(error)), {"word", "at"})
            return error.word, error.at

    def test_drawn_and_mutated(self):
        found = {}
        for rng, row, rule, figure, _ in list(cases(96, 160, 3)) + list(long_cases(97, 60, (ELL, BAR))):
            paper = verdict_of(row, rule, figure, 400)
            for _ in range(4):
                thing = mutated(rng, paper, row)
                if rng.random() < 0.3:
                    thing = mutated(rng, thing, row) if thing[1] else thing
                expected = expected_yes if thing[0] == "yes" else expected_no
                due = expected(row, rule, figure, *thing[1:])
                self.assertEqual(self.judged(row, rule, figure, thing), due, (row, rule, figure, thing))
                found[due and due[0]] = found.get(due and due[0], 0) + 1
        words = {"first", "twice", "done", "untold", "level", "watch", "clash", "end", "back", "robots", None}
        self.assertGreaterEqual(set(found), words)

    def test_shapes(self):
        lot, line = ((0, 0), (1, 0)), (PAIR, 0, -1)
        things = [None, True, 0, "", "yes", "no", (), [], ("yes",), ("no",), ("maybe", ()), ("no", "clash"), ("no", "ring", ())]
        things += [("yes", [], ()), ("yes", [line]), ("yes", ((PAIR, 0),)), ("yes", (list(line),)), ["yes", (line,)]]
        things += [("yes", (line, None)), ("yes", ((ELL, 0, -1),)), ("yes", ((PAIR, -1, -1),)), ("yes", ((PAIR, True, -1),))]
        things += [("yes", ((PAIR, 0, None),)), ("yes", ((PAIR, 0, False),)), ("yes", ((list(PAIR), 0, -1),)), ("yes", line)]
        things += [("yes", (line,), ()), ("no", "clash", [lot]), ("no", "clash", (lot,), ()), ("no", "leaves", lot)]
        things += [("no", "ring", (), [lot]), ("no", "ring", (), (lot,), ()), ("no", "clash", ((),)), ("no", "leaves", (lot, ()))]
        things += [("no", "ring", ((),), (lot,)), ("no", "ring", (), ((),)), ("no", "clash", (((2, 0),),)), ("no", "yes", (lot,))]
        things += [("no", "clash", (((0, 4),),)), ("no", "clash", (((1, 0), (0, 0)),)), ("no", ["clash"], (lot,)), ("no", 0, ())]
        things += [("maybe", "clash", (lot,)), ("yes", "clash", (lot,)), ("yes", "ring", (), (lot,)), ("no", (line,))]
        things += [("no", "clash", None), ("no", "ring", (lot,)), (["yes"], (line,)), Motion(0, 0, 0), ("yes", Motion(0, 0, 0))]
        for thing in things:
            self.assertEqual(self.judged(PAIR, STAY, PAIR, thing), ("shape", -1), thing)
        self.assertIsNone(self.judged(PAIR, STAY, PAIR, ("yes", (line,))))

    def test_yes_entries(self):
        given = (FAR, HOUSE, ELL)
        good = ((ELL, 0, -1), (FAR, 1, 2))
        for at, due in (
            ((), ("first", -1)),
            (good[:1], ("first", -1)),
            ((good[0], good[1], good[1]), ("twice", 2)),
            ((good[0], good[1], (ELL[::-1], 5, 5)), ("done", 2)),
            ((good[0], good[1], (ELL[::-1], 0, -1)), None),
            ((good[1], good[0], (FAR, 0, 7)), ("twice", 2)),
            (((FAR, 0, 2), good[0]), ("done", 0)),
            (((FAR, 1, 3), good[0]), ("done", 0)),
            (((FAR, 1, -1), good[0]), ("done", 0)),
            (((FAR, 2, 2), (ELL, 1, -1)), ("done", 1)),
            ((good[1], (ELL, 1, -1)), ("watch", 0)),
            ((good[1], (ELL, 2, 2)), ("level", 0)),
            ((good[1], (ELL, 0, 0)), ("done", 1)),
            (good[1:], ("untold", 0)),
            (((FAR, 1, 0), good[0]), ("watch", 0)),
            (((FAR, 1, 1), good[0]), ("watch", 0)),
            (((((1, 1), (1, 2), (3, 1)), 10**30, 2), (((0, 1), (0, 0), (1, 1)), 0, -1)), ("untold", 0)),
            (((((1, 1), (1, 2), (3, 1)), 10**30, 2), (((5, 5), (5, 6), (6, 5)), 0, -1)), None),
            (good, None),
        ):
            self.assertEqual(self.judged(*given, ("yes", at)), due, at)

    def test_further_yes_entries(self):
        # Done, but a robot moves.
        lines = tuple((stand, 0 if is_done(stand, PAIR) else 1, -1) for stand in reach_of(PAIR, MORE[0], PAIR, 60))
        lines = tuple((stand, level, -1 if level == 0 else 0) for stand, level, _ in lines)
        self.assertEqual(self.judged(PAIR, MORE[0], PAIR, ("yes", lines))[0], "moves")
        # What comes is on a higher level; then on the same level with another watch.
        further = ((0, 0), (0, 1), (3, 0))
        good = ((ELL, 0, -1), (FAR, 1, 2), (further, 2, 2))
        self.assertIsNone(self.judged(further, HOUSE, ELL, ("yes", good)))
        for lines, due in (
            ((good[0], (FAR, 3, 2), good[2]), ("level", 2)),
            ((good[0], (FAR, 2, 1), good[2]), ("watch", 1)),
            ((good[0], (FAR, 2, 2), good[2]), ("watch", 2)),
            ((good[2], (FAR, 2, 0), good[0]), ("watch", 0)),
        ):
            self.assertEqual(self.judged(further, HOUSE, ELL, ("yes", lines)), due)

    def test_clash_with_the_watch(self):
        # The watch itself always leads to the figure; but others that are woken with it clash.
        step = "when done = 0 and rank = 0 go along(sumx, sumy)"
        bump = "when done = 0 and near(1) = 1 and seen(1, 0) = 1 go east"
        lines = ((FAR, 1, 2), (ELL, 0, -1))
        self.assertIsNone(self.judged(FAR, read_rule(step), ELL, ("yes", lines)))
        self.assertEqual(self.judged(FAR, read_rule(bump + "\n" + step), ELL, ("yes", lines)), ("watch", 0))

    def test_no_entries(self):
        row, both = ((0, 0), (2, 0)), ((0, 0), (1, 2))
        one, two = ((0, 0),), ((1, 2),)
        figure = ((0, 0), (5, 5))
        for thing, due in (
            (("clash", (both,)), None),
            (("clash", (one, one)), None),
            (("clash", (both, one)), ("clash", 0)),
            (("clash", (one, one, one)), ("clash", 1)),
            (("clash", ()), ("end", -1)),
            (("clash", (one,)), ("end", -1)),
            (("leaves", (both,)), ("end", -1)),
            (("leaves", (one, one, one)), ("clash", 1)),
            (("leaves", ()), ("end", -1)),
            (("ring", (), (both,)), ("clash", 0)),
            (("ring", (one,), (((0, 2),), one)), ("robots", -1)),
            (("ring", (one,), (one,)), ("clash", 1)),
            (("ring", (one,), ()), ("robots", -1)),
            (("ring", (), (one,)), ("back", -1)),
            (("ring", (one,), (((0, 2),), one, two)), ("clash", 3)),
            (("ring", (), (((0, 2),), ((1, 0),), ((0, 0), (1, 2)))), None),
            # The stand counts, not the row.
            (("ring", (), (((0, 1), (1, 1)),)), None),
        ):
            self.assertEqual(self.judged(row, EAST, figure, ("no",) + thing), due, thing)

    def test_no_entries_at_the_figure(self):
        row, one = ((0, 0), (2, 0)), ((0, 0),)
        away = ((0, 2),)
        for thing, due in (
            # Done ahead of the clash; left, by a step or by a clash; not left by a lot by which nobody steps.
            (("clash", (((0, 0), (1, 2)),)), ("end", -1)),
            (("leaves", (((0, 0), (1, 2)),)), None),
            (("leaves", (one,)), None),
            (("leaves", (away, one, away)), None),
            (("leaves", (away, one)), ("end", -1)),
            (("clash", (one, one)), None),
            (("ring", (), (((0, 0), (1, 0)),)), ("done", 0)),
            (("ring", (away,), (one, ((0, 2), (1, 2)))), ("done", 2)),
            (("ring", (one,), (((0, 1), (1, 1)),)), None),
            # A clash comes ahead of done.
            (("ring", (), (((0, 0), (1, 2)),)), ("clash", 0)),
            (("ring", (away, one), (((0, 0), (1, 2)),)), ("clash", 2)),
        ):
            self.assertEqual(self.judged(row, EAST, PAIR, ("no",) + thing), due, thing)
        self.assertEqual(self.judged(row, STAY, PAIR, ("no", "leaves", (one,))), ("end", -1))
        # Both step on: the row changes, the stand does not.
        self.assertIsNone(self.judged(row, EAST, PAIR, ("no", "leaves", (((0, 1), (1, 1)),))))

    def test_small_and_large_papers(self):
        self.assertEqual(side_of(standing_by(FAR)), 2)
        ring = (((0, 0), (1, 0)),) * 3000
        self.assertEqual(lets_verdict(PAIR, STAY, ((0, 0), (1, 1)), ("no", "ring", ring, ring)), "no")


if __name__ == "__main__":
    unittest.main()
