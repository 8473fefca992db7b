"""[85] to [88]: spans and sectors, ways, steps and runs of pairs with counters; (G11)."""

import itertools
import random
import unittest

from compassless.errors import NotUsable
from compassless.floorclasses import Motion
from compassless.folds import kind_of
from compassless.forms import alike
from compassless.motions import carried
from compassless.pairruns import meet_run, pair_run
from compassless.pairsteps import meet_step, pair_step
from compassless.pairways import meet_way, pair_way
from compassless.roads import distance
from compassless.spans import in_sector, sector_of, sector_turn, span_of
from compassless.turns import cone_turn, turned
from tests.lotsamples import draw_lots
from tests.samples import BAD_INTEGERS, BAD_PLACES, BAD_STANDINGS, BAR, ELL, HUGE, SQUARE, STEPS

PAIR, SLANT = ((0, 1), (3, 0)), ((0, 0), (1, 1))
NOT_PAIRS = BAD_STANDINGS + [BAR, ELL, SQUARE]


def pair_with(span, place=(0, 0)):
    """The standing of two places that differ by this span or by minus it."""
    return tuple(sorted((place, (place[0] + span[0], place[1] + span[1]))))


SPANS = [(x, y) for x in range(13) for y in range(-12, 13) if (x, y) > (0, 0)]


def draw_pairs(seed, times, kind=None):
    """Two pairs, of one kind or of any, with spans of at most 12."""
    rng = random.Random(seed)
    while times:
        one, two = (pair_with(rng.choice(SPANS), (rng.randint(-9, 9), rng.randint(-9, 9))) for _ in range(2))
        if kind is None or kind_of(one) == kind_of(two) and kind in ("", kind_of(one)):
            times -= 1
            yield one, two


def dot(e, f):
    return e[0] * f[0] + e[1] * f[1]


def cross(e, f):
    return e[0] * f[1] - e[1] * f[0]


def lies(g, e):
    return dot(g, e) > 0 and cross(g, e) >= 0


def expected_sector(standing, figure):
    if kind_of(standing) != kind_of(figure):
        return None
    d, span = span_of(standing), span_of(figure)
    for turn in range(4):
        f = turned(turn, span)
        if (f[0] - d[0]) % 2 == 0 and (f[1] - d[1]) % 2 == 0 and dot(d, f) > 0:
            return f, d if cross(d, f) >= 0 else f


def stretch(start, goal):
    """The steps of two along x first, then along y."""
    steps = []
    for axis in (0, 1):
        gap = goal[axis] - start[axis]
        step = [0, 0]
        step[axis] = 1 if gap > 0 else -1
        steps += [tuple(step)] * (abs(gap) // 2)
    return steps


def expected_way(standing, figure):
    sector = expected_sector(standing, figure)
    if sector is None:
        return None
    (f, g), d = sector, span_of(standing)
    v = next(step for step in STEPS if lies(g, step))
    steps = stretch(d, f)
    for r in range(200):
        x, y = d[0] + 2 * r * v[0], d[1] + 2 * r * v[1]
        spots = [(x, y)]
        for a, b in steps:
            x, y = x + 2 * a, y + 2 * b
            spots.append((x, y))
        if all(lies(g, spot) for spot in spots):
            return sums([v] * r + steps + [(-v[0], -v[1])] * r)


def sums(steps):
    found = [(0, 0)]
    for a, b in steps:
        found.append((found[-1][0] + a, found[-1][1] + b))
    return tuple(found)


def expected_meet_way(standing):
    if kind_of(standing) != "place":
        return None
    span = span_of(standing)
    x, y = turned(cone_turn(span), span)
    return sums([(0, -1 if y > 0 else 1)] * (abs(y) // 2) + [(-1, 0)] * (x // 2))


class Spans(unittest.TestCase):
    def test_spans(self):
        for one, _ in draw_pairs(85, 100):
            (x, y), (v, w) = one
            self.assertEqual(span_of(one), (v - x, w - y))
            self.assertEqual(span_of(standing=one), span_of(one))
        self.assertEqual([span_of(pair_with(span)) for span in SPANS], SPANS)
        self.assertEqual(span_of(((-HUGE, HUGE), (HUGE, -HUGE))), (2 * HUGE, -2 * HUGE))

    def test_sectors(self):
        kinds, firsts = set(), set()
        for one, two in draw_pairs(86, 2000):
            due = expected_sector(one, two)
            self.assertEqual(sector_of(one, two), due)
            self.assertEqual(sector_of(figure=two, standing=one), due)
            if due:
                f, g = due
                self.assertTrue(in_sector(g, f) and in_sector(g, span_of(one)))
                kinds.add(kind_of(one))
                firsts.add((g == f, g == span_of(one)))
        self.assertEqual((kinds, len(firsts)), ({"place", "edge", "cell"}, 3))

    def test_along_axes_and_diagonals(self):
        east, north, slant, steep = ((0, 0), (2, 0)), ((0, 0), (0, 2)), ((0, 0), (2, 2)), ((0, 2), (2, 0))
        self.assertEqual(sector_of(east, north), ((2, 0), (2, 0)))
        self.assertEqual(sector_of(east, slant), ((2, 2), (2, 0)))
        # The least turn: (2, 2) turned by 0 comes ahead of (2, -2), turned by 3.
        self.assertEqual(sector_of(east, steep), ((2, -2), (2, -2)))
        self.assertEqual(sector_of(slant, east), ((2, 0), (2, 0)))
        self.assertEqual(sector_of(PAIR, PAIR), ((3, -1), (3, -1)))
        self.assertEqual(sector_of(((0, 0), (1, 0)), ((0, 0), (0, 3))), ((3, 0), (1, 0)))
        for one, two in ((east, SLANT), (SLANT, ((0, 0), (1, 0))), (((0, 0), (1, 2)), east)):
            self.assertIsNone(sector_of(one, two))
            self.assertIsNone(pair_way(one, two))

    def test_in_sector_and_its_turn(self):
        places = [(x, y) for x in range(-3, 4) for y in range(-3, 4)]
        for g in places:
            if g != (0, 0):
                for e in places:
                    self.assertIs(in_sector(g, e), lies(g, e))
                    if e != (0, 0):
                        turns = [turn for turn in range(4) if lies(g, turned(turn, e))]
                        self.assertEqual([sector_turn(g, e)], turns)
                        self.assertEqual(sector_turn(place=e, g=g), turns[0])
        self.assertIs(in_sector(place=(5, 5), g=(1, 1)), True)
        self.assertEqual([in_sector((1, 0), e) for e in ((1, 0), (0, 1), (0, 0), (9, -1))], [True, False, False, False])

    def test_wrong_inputs(self):
        for wrong in NOT_PAIRS:
            self.refused("standing", span_of, wrong)
            self.refused("standing", sector_of, wrong, None)
            self.refused("figure", sector_of, PAIR, wrong)
        for wrong in BAD_PLACES + [(0, 0)]:
            self.refused("g", in_sector, wrong, None)
            self.refused("g", sector_turn, wrong, None)
            self.refused("place", sector_turn, (1, 0), wrong)
        for wrong in BAD_PLACES:
            self.refused("place", in_sector, (1, 0), wrong)

    def refused(self, word, call, *given):
        with self.assertRaises(NotUsable) as caught:
            call(*given)
        self.assertEqual(vars(caught.exception), {"word": word, "at": -1}, given)


class Ways(unittest.TestCase):
    def test_word_by_word(self):
        leads, none = set(), 0
        for one, two in draw_pairs(87, 1500):
            due = expected_way(one, two)
            self.assertEqual(pair_way(one, two), due)
            self.assertEqual(pair_way(figure=two, standing=one), due)
            none += due is None
            if due:
                f, d = sector_of(one, two)[0], span_of(one)
                self.assertEqual(due[-1], ((f[0] - d[0]) // 2, (f[1] - d[1]) // 2))
                leads.add((len(due) - 1 - distance((0, 0), due[-1])) // 2)
        self.assertGreater(min(none, len(leads)), 4)

    def test_widest(self):
        for one, two in itertools.product([pair_with(s) for s in ((12, 12), (12, -12), (12, 11), (0, 12), (1, -12))], repeat=2):
            self.assertEqual(pair_way(one, two), expected_way(one, two))

    def test_edges(self):
        self.assertEqual((pair_way(PAIR, PAIR), pair_way(PAIR, carried((1, 0, 7), PAIR))), (((0, 0),), ((0, 0),)))
        self.assertEqual(pair_way(((0, 0), (2, 0)), ((5, 5), (9, 5))), ((0, 0), (1, 0)))

    def test_meet_ways(self):
        for span in SPANS:
            due = expected_meet_way(pair_with(span))
            self.assertEqual(meet_way(pair_with(span)), due)
            self.assertEqual(meet_way(standing=pair_with(span)), due)
            self.assertEqual(due is None, span[0] % 2 + span[1] % 2 > 0)
        self.assertEqual(meet_way(((0, 0), (4, 2))), ((0, 0), (0, -1), (-1, -1), (-2, -1)))
        self.assertEqual(meet_way(((0, 4), (2, 0))), ((0, 0), (0, -1), (-1, -1), (-2, -1)))
        self.assertEqual(meet_way(((0, 2), (2, 0))), ((0, 0), (0, -1), (-1, -1)))

    def test_wrong_inputs(self):
        for wrong in NOT_PAIRS:
            self.refused("standing", pair_way, wrong, None)
            self.refused("standing", meet_way, wrong)
            self.refused("figure", pair_way, PAIR, wrong)

    refused = Spans.refused


class Steps(unittest.TestCase):
    def test_word_by_word(self):
        rng = random.Random(88)
        for one, two in draw_pairs(88, 300, ""):
            way, (_, g) = pair_way(one, two), sector_of(one, two)
            for taken in (0, len(way) - 1, rng.randrange(len(way))):
                seen = rng.choice([(3, 3), (-2, 1), (0, -5), (1, -1), (HUGE, 7)])
                due = (0, 0)
                if taken < len(way) - 1:
                    (a, b), (x, y) = way[taken], way[taken + 1]
                    due = turned((4 - sector_turn(g, seen)) % 4, (a - x, b - y))
                self.assertEqual(pair_step(one, two, seen, taken), due)
                self.assertEqual(pair_step(taken=taken, seen=seen, figure=two, standing=one), due)

    def test_meet_steps_word_by_word(self):
        rng = random.Random(89)
        for one, _ in draw_pairs(89, 300, "place"):
            way = meet_way(one)
            for taken in (0, len(way) - 1, rng.randrange(len(way))):
                seen = rng.choice([(3, 3), (-2, 1), (0, -5), (1, -1), (HUGE, 7)])
                due = (0, 0)
                if taken < len(way) - 1:
                    (a, b), (x, y) = way[taken], way[taken + 1]
                    due = turned((4 - cone_turn(seen)) % 4, (a - x, b - y))
                self.assertEqual(meet_step(one, seen, taken), due)
                self.assertEqual(meet_step(taken=taken, seen=seen, standing=one), due)
            self.assertEqual(meet_step(one, (0, 0), len(way) - 1), (0, 0))

    def test_refused(self):
        last = len(pair_way(PAIR, SLANT)) - 1
        for wrong in NOT_PAIRS:
            self.refused("standing", pair_step, wrong, None, None, None)
            self.refused("figure", pair_step, PAIR, wrong, None, None)
            self.refused("standing", meet_step, wrong, None, None)
        for wrong in (((0, 0), (1, 0)), ((0, 0), (2, 0))):
            self.refused("figure", pair_step, PAIR, wrong, None, None)
        for wrong in (PAIR, ((0, 0), (1, 0))):
            self.refused("standing", meet_step, wrong, None, None)
        even = ((0, 0), (4, 2))
        for wrong in BAD_PLACES:
            self.refused("seen", pair_step, PAIR, SLANT, wrong, None)
            self.refused("seen", meet_step, even, wrong, None)
        self.refused("seen", pair_step, PAIR, SLANT, (0, 0), None)
        self.refused("seen", pair_step, PAIR, SLANT, (0, 0), last)
        for wrong in BAD_INTEGERS + [-1, last + 1]:
            self.refused("taken", pair_step, PAIR, SLANT, (1, 0), wrong)
            self.refused("taken", meet_step, even, (1, 0), wrong if wrong != last + 1 else 4)
        for wrong in (0, 1, 2, 4, None):
            self.refused("taken", meet_step, even, (0, 0), wrong)
        self.assertEqual((meet_step(even, (0, 0), 3), pair_step(PAIR, SLANT, (1, 0), last)), ((0, 0), (0, 0)))

    refused = Spans.refused


def expected_run(start, lots, step):
    """The log, each robot's step by what it sees in its frame."""
    places, counters = start, (0, 0)
    log = [(places, counters)]
    for lot in lots:
        come, counts = list(places), list(counters)
        for robot, frame in lot:
            own, other = places[robot], places[1 - robot]
            seen = turned(frame, (other[0] - own[0], other[1] - own[1]))
            a, b = turned((4 - frame) % 4, step(seen, counters[robot]))
            come[robot] = (own[0] + a, own[1] + b)
            counts[robot] += (a, b) != (0, 0)
        places, counters = tuple(come), tuple(counts)
        log.append((places, counters))
    return tuple(log)


class Runs(unittest.TestCase):
    def test_word_by_word(self):
        rng = random.Random(90)
        for one, two in draw_pairs(90, 60, ""):
            lots = draw_lots(rng, 2, 12)
            due = expected_run(one, lots, lambda seen, taken: pair_step(one, two, seen, taken))
            self.assertEqual(pair_run(one, two, lots), due)
            self.assertEqual(pair_run(lots=lots, figure=two, standing=one), due)
        for one, _ in draw_pairs(91, 60, "place"):
            lots = draw_lots(rng, 2, 12)
            due = expected_run(one, lots, lambda seen, taken: meet_step(one, seen, taken))
            self.assertEqual(meet_run(one, lots), due)
            self.assertEqual(meet_run(lots=lots, standing=one), due)

    def test_edges(self):
        self.assertEqual(pair_run(PAIR, SLANT, ()), ((PAIR, (0, 0)),))
        self.assertEqual(pair_run(PAIR, PAIR, (((0, 0), (1, 3)), ())), ((PAIR, (0, 0)),) * 3)
        self.assertEqual(meet_run(((0, 0), (2, 0)), ()), ((((0, 0), (2, 0)), (0, 0)),))

    def test_to_the_figure(self):
        # (G11), and where the one is seen from the other on the way.
        rng = random.Random(92)
        for one, two in draw_pairs(92, 80, ""):
            way, (_, g), d = pair_way(one, two), sector_of(one, two), span_of(one)
            lots = draw_lots(rng, 2, 8 * len(way)) + (((0, 1), (1, 2)),) * len(way)
            log = pair_run(one, two, lots)
            for (p, r), (i, j) in log:
                gap = (d[0] + way[i][0] + way[j][0], d[1] + way[i][1] + way[j][1])
                self.assertEqual((r[0] - p[0], r[1] - p[1]), gap)
                self.assertTrue(in_sector(g, gap))
            last, counters = log[-1]
            self.assertEqual(counters, (len(way) - 1,) * 2)
            self.assertTrue(alike(tuple(sorted(last)), two))

    def test_to_one_place(self):
        rng = random.Random(93)
        for one, _ in draw_pairs(93, 80, "place"):
            way, turn = meet_way(one), cone_turn(span_of(one))
            x, y = turned(turn, span_of(one))
            lots = draw_lots(rng, 2, 8 * len(way)) + (((0, 1), (1, 2)),) * len(way)
            log = meet_run(one, lots)
            for (p, r), (i, j) in log:
                gap = turned(turn, (r[0] - p[0], r[1] - p[1]))
                self.assertEqual(gap, (x + way[i][0] + way[j][0], y + way[i][1] + way[j][1]))
                if i < len(way) - 1 or j < len(way) - 1:
                    self.assertEqual(cone_turn(gap), 0)
            (p, r), counters = log[-1]
            self.assertEqual((p, counters), (r, (len(way) - 1,) * 2))

    def test_frames_tell_nothing(self):
        # The run is the same in whatever frames, and both steps are done at once.
        for one, two in draw_pairs(94, 30, ""):
            first = pair_run(one, two, (((0, 0), (1, 0)),) * 9)
            for frames in ((1, 0), (2, 3), (3, 3)):
                self.assertEqual(pair_run(one, two, (tuple(enumerate(frames)),) * 9), first)

    def test_refused(self):
        for wrong in NOT_PAIRS:
            self.refused("standing", pair_run, wrong, None, None)
            self.refused("figure", pair_run, PAIR, wrong, None)
            self.refused("standing", meet_run, wrong, None)
        self.refused("figure", pair_run, PAIR, ((0, 0), (2, 0)), None)
        self.refused("standing", meet_run, PAIR, None)
        for wrong in (None, [], 0, "", ((0, 0),), (None,), (((2, 0),),), (((0, 4),),), (((1, 0), (0, 0)),), Motion(0, 0, 0)):
            self.refused("lots", pair_run, PAIR, SLANT, wrong)
            self.refused("lots", meet_run, ((0, 0), (2, 0)), wrong)

    def test_long(self):
        log = pair_run(PAIR, SLANT, (((0, 0), (1, 0)),) * 2000)
        self.assertEqual((len(log), log[-1][1]), (2001, (4, 4)))

    refused = Spans.refused


if __name__ == "__main__":
    unittest.main()
