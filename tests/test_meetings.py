"""[83] and [84]: how robots meet, and the foe against it; (G10)."""

import itertools
import random
import unittest

from compassless.errors import NotHeld, NotMeeting, NotUsable
from compassless.floorclasses import Motion
from compassless.foeframes import foe_frames
from compassless.folds import class_of
from compassless.heaps import fold_about, heap_form, heap_of, heaped_by, is_heaped
from compassless.inwards import inward
from compassless.meaning import step_of
from compassless.meetfoes import meet_foe
from compassless.meetings import meet_left, meet_moves, meet_most, meet_tick, meets
from compassless.motions import moved
from compassless.pictures import picture_of
from compassless.readings import read_rule
from compassless.roads import distance
from compassless.ruletrees import HOUSE
from compassless.standings import side_of
from compassless.turns import turned
from compassless.wants import want_of
from tests.lotsamples import EAST, RULES, STAY
from tests.rulesamples import draw_rule
from tests.samples import (
    BAD_INTEGERS,
    BAD_ROWS,
    BAD_STANDINGS,
    BAR,
    ELL,
    PLUS,
    RING,
    SAMPLES,
    SQUARE,
    UNEVEN,
    ZIG,
    classes_of,
    draw_standing,
    of_class,
    told_class,
)
from tests.test_heaps import ALONE, CORNER, HEAPED, NO_HEAPED, draw_heaped

DONE = (0, 0, 0)
MOTIONS = ((1, 3, 0), (2, -5, 7), (3, -1, -2))
PAIR = ((0, 0), (3, 1))


def middle_of(standing):
    many = len(standing)
    return sum(x for x, _ in standing) // many, sum(y for _, y in standing) // many


def places_of(heaped):
    return tuple(place for place, _ in heaped)


def can_meet(standing):
    word, _, kind = told_class(standing)
    return len(standing) > 2 and (word != "held" or kind == "place")


def pairs_in(others):
    """The pairs of others, nearest ones first, then the least."""
    return sorted((distance(p, r), p, r) for p in others for r in others if p < r)


def expected_moves(heaped):
    """[83] word by word."""
    standing = places_of(heaped)
    if len(heaped) == 1 or (heap_of(heaped) is None and not can_meet(standing)):
        return ()
    if heap_of(heaped) is None and told_class(standing) == UNEVEN:
        turn, leader, others = picture_of(standing)
        move = (leader, (1, 0))
        if want_of(standing, 0) == 0:
            _, p, r = pairs_in(others)[0]
            move = (p, (1, 0) if r[0] > p[0] else (0, 1))
        return (tuple(turned((4 - turn) % 4, pair) for pair in move),)
    return expected_inward(heaped, heap_of(heaped) or middle_of(standing))


def expected_inward(heaped, h):
    others = [place for place in places_of(heaped) if place != h]
    least = min(distance(place, h) for place in others)
    nearest = [place for place in others if distance(place, h) == least]
    found = set()
    for turn in range(4):
        spun = {place: turned(turn, (place[0] - h[0], place[1] - h[1])) for place in places_of(heaped)}
        if tuple(sorted((spun[place], many) for place, many in heaped)) == heap_form(heaped, h):
            first = max(nearest, key=spun.get)
            found.add(first)
            break
    turns = {1: (0,), 2: (0, 2), 4: (0, 1, 2, 3)}[fold_about(heaped, h)]
    away = (first[0] - h[0], first[1] - h[1])
    for turn in turns:
        x, y = turned(turn, away)
        found.add((x + h[0], y + h[1]))
    return tuple(sorted((place, inward(place, h)) for place in found))


def expected_left(heaped):
    if len(heaped) == 1:
        return DONE
    standing, heap = places_of(heaped), heap_of(heaped)
    if heap is not None:
        return 1, sum(distance(place, heap) for place in standing), 0
    if told_class(standing) == UNEVEN:
        return 2, pairs_in(picture_of(standing)[2])[0][0], want_of(standing, 0)
    return 3, sum(distance(place, middle_of(standing)) for place in standing), 0


def all_heaped():
    rng = random.Random(83)
    found = [heaped_by(*standing) for standing in SAMPLES] + [CORNER, HEAPED, ALONE]
    for many in range(2, 11):
        found += [heaped_by(*draw_heaped(rng, many)) for _ in range(20)]
    # A leader so far away that nothing is wanted of it, east, north, west or south of the others.
    for many in (3, 4, 5, 8, 10):
        for turn in range(4):
            places = rng.sample([(x, y) for x in range(6) for y in range(4)], many - 1)
            found.append(heaped_by(*[turned(turn, place) for place in places + [(200 + many, rng.randint(0, 3))]]))
    # Standings that keep a turn about the heap.
    found += [heaped_by(*RING, (1, 1), (1, 1)), heaped_by(*PLUS, (1, 1)), heaped_by((0, 0), (2, 2), (1, 1), (1, 1))]
    found += [heaped_by((0, 0), (4, 0), *[(2, 0)] * 8), heaped_by((1, 0), (0, 1), (3, 3), *[(0, 0)] * 3)]
    return found


ALL = all_heaped()


class Meetings(unittest.TestCase):
    def test_meets(self):
        for standing in SAMPLES:
            self.assertIs(meets(standing), can_meet(standing))
            self.assertIs(meets(standing=standing), can_meet(standing))
        self.assertEqual([meets(s) for s in (BAR, ELL, RING, SQUARE, ZIG, PAIR)], [True, True, True, False, False, False])

    def test_moves_word_by_word(self):
        sizes, words = set(), set()
        for heaped in ALL:
            due = expected_moves(heaped)
            self.assertEqual(meet_moves(heaped), due, heaped)
            self.assertEqual(meet_moves(heaped=heaped), due)
            sizes.add(len(due))
            words.add((heap_of(heaped) is None, bool(due)))
        self.assertEqual((sizes, len(words)), ({0, 1, 2, 4}, 4))

    def test_left_and_most_word_by_word(self):
        firsts = set()
        for heaped in ALL:
            standing = places_of(heaped)
            if len(heaped) == 1 or heap_of(heaped) or can_meet(standing):
                self.assertEqual(meet_left(heaped), expected_left(heaped))
                self.assertEqual(meet_left(heaped=heaped), expected_left(heaped))
                firsts.add(meet_left(heaped)[0])
            else:
                self.raised(NotMeeting, {"told": class_of(standing)}, meet_left, heaped)
        self.assertEqual(firsts, {0, 1, 2, 3})
        for standing in SAMPLES:
            if can_meet(standing):
                n, w = len(standing), side_of(standing)
                due = (2 * n + 19) * w + 10 * n + (0 if told_class(standing) == UNEVEN else n * w)
                self.assertEqual(meet_most(standing), due)
                self.assertEqual(meet_most(standing=standing), due)
            else:
                self.raised(NotMeeting, {"told": class_of(standing)}, meet_most, standing)

    def test_told(self):
        for pair, kind in ((PAIR, "cell"), (((0, 0), (0, 2)), "place"), (((0, 0), (0, 1)), "edge")):
            self.raised(NotMeeting, {"told": ("held", 2, kind)}, meet_left, heaped_by(*pair))
            self.raised(NotMeeting, {"told": ("held", 2, kind)}, meet_most, pair)
        self.raised(NotMeeting, {"told": ("held", 4, "cell")}, meet_left, heaped_by(*SQUARE))
        self.assertEqual((meet_left(ALONE), meet_moves(ALONE), meet_tick(ALONE, ())), (DONE, (), ALONE))

    def test_edges(self):
        # The centre's own robot is none of the other places.
        self.assertEqual(meet_moves(heaped_by(*BAR)), (((0, 0), (1, 0)), ((2, 0), (-1, 0))))
        self.assertEqual(meet_left(heaped_by(*BAR)), (3, 2, 0))
        self.assertEqual(len(meet_moves(heaped_by(*RING))), 4)
        self.assertEqual(len(meet_moves(heaped_by(*PLUS))), 4)
        self.assertEqual(meet_tick(heaped_by(*PLUS), RING), (((1, 1), 5),))
        self.assertEqual(meet_tick(heaped_by(*PLUS), ((0, 1), (2, 1))), (((1, 0), 1), ((1, 1), 3), ((1, 2), 1)))
        self.assertEqual(meet_tick(heaped_by(*RING), ((1, 2),)), (((0, 1), 1), ((1, 0), 1), ((1, 1), 1), ((2, 1), 1)))
        # With a heap only the nearest one moves, here the one that comes to the greatest place.
        self.assertEqual(meet_moves(heaped_by((0, 0), (0, 0), (3, 0), (0, 3), (9, 9))), (((0, 3), (0, -1)),))

    def test_ticks(self):
        rng = random.Random(84)
        for heaped in ALL:
            moves = dict(meet_moves(heaped))
            for _ in range(3):
                places = tuple(sorted(rng.sample(places_of(heaped), rng.randint(0, len(heaped)))))
                robots = [place for place, many in heaped for _ in range(many)]
                for place in places:
                    if place in moves:
                        robots.remove(place)
                        robots.append((place[0] + moves[place][0], place[1] + moves[place][1]))
                self.assertEqual(meet_tick(heaped, places), heaped_by(*robots))
                self.assertEqual(meet_tick(places=places, heaped=heaped), heaped_by(*robots))

    def test_less_is_left(self):
        # The consequence of [84]: some of the moves, at least one, and less is left.
        for heaped in ALL:
            if heap_of(heaped) or can_meet(places_of(heaped)):
                left = meet_left(heaped)
                starts = [place for place, _ in meet_moves(heaped)]
                self.assertEqual(starts == [], left == DONE)
                for many in range(1, len(starts) + 1):
                    for some in itertools.combinations(starts, many):
                        come = meet_tick(heaped, some)
                        self.assertTrue(is_heaped(come))
                        self.assertLess(meet_left(come), left)

    def test_to_one_place(self):
        # (G10): in at most meet_most ticks in which somebody steps.
        rng = random.Random(85)
        for many in range(3, 11):
            for told in classes_of(many):
                standing = draw_standing(rng, many, told)
                if not can_meet(standing):
                    self.assertEqual(meet_moves(heaped_by(*standing)), ())
                    continue
                heaped, ticks = heaped_by(*standing), 0
                while len(heaped) > 1:
                    moves, left = meet_moves(heaped), meet_left(heaped)
                    self.assertEqual((moves, left), (expected_moves(heaped), expected_left(heaped)))
                    some = rng.sample([place for place, _ in moves], rng.randint(1, len(moves)))
                    heaped = meet_tick(heaped, tuple(sorted(some)))
                    self.assertLess(meet_left(heaped), left)
                    ticks += 1
                self.assertEqual((heaped[0][1], meet_left(heaped)), (many, DONE))
                self.assertLessEqual(ticks, meet_most(standing))

    def test_carried(self):
        for heaped in ALL[::5]:
            for motion in MOTIONS:
                other = tuple(sorted((moved(motion, place), many) for place, many in heaped))
                due = tuple(sorted((moved(motion, p), turned(motion[0], s)) for p, s in meet_moves(heaped)))
                self.assertEqual(meet_moves(other), due)

    def test_wrong_inputs(self):
        for wrong in BAD_STANDINGS:
            self.refused("standing", meets, wrong)
            self.refused("standing", meet_most, wrong)
        for wrong in NO_HEAPED:
            for call in (meet_moves, meet_left):
                self.refused("heaped", call, wrong)
            self.refused("heaped", meet_tick, wrong, None)
        for wrong in (None, [], [(0, 0)], ((0, 1), (0, 0)), ((0, 0), (0, 0)), ((5, 5),), ((False, 0),), ((0, 0), None), 0):
            self.refused("places", meet_tick, CORNER, wrong)

    def refused(self, word, call, *given):
        self.raised(NotUsable, {"word": word, "at": -1}, call, *given)

    def raised(self, error, fields, call, *given):
        with self.assertRaises(error) as caught:
            call(*given)
        self.assertEqual((type(caught.exception), vars(caught.exception)), (error, fields), given)


def seen_from(places, place, frame):
    """The view with each place once, also if it is that of two robots on unlike places alone."""
    return tuple(sorted({turned(frame, (x - place[0], y - place[1])) for x, y in places}))


def expected_foe(row, rule, many):
    standing = tuple(sorted(row))
    frames = [foe_frames(standing)[standing.index(place)] for place in row]
    log = [row]
    for _ in range(many):
        goals = list(log[-1])
        if len(set(goals)) > 1:
            for robot, (x, y) in enumerate(log[-1]):
                a, b = step_of(rule, seen_from(log[-1], (x, y), frames[robot]), None)
                a, b = turned((4 - frames[robot]) % 4, (a, b))
                goals[robot] = (x + a, y + b)
            if len(row) == 2 and goals[0] == goals[1]:
                goals[1] = log[-1][1]
        log.append(tuple(goals))
    return tuple(log)


INWARDS = read_rule("else go along(sumx, sumy)")


class Foes(unittest.TestCase):
    def test_word_by_word(self):
        rng = random.Random(86)
        twice = 0
        for standing in of_class("held"):
            row = tuple(rng.sample(standing, len(standing)))
            for rule in rng.sample(RULES, 3) + [draw_rule(rng), INWARDS]:
                log = meet_foe(row, rule, 8)
                self.assertEqual(log, expected_foe(row, rule, 8))
                self.assertEqual(meet_foe(many=8, rule=rule, row=row), log)
                twice += any(len(set(come)) < len(row) for come in log)
                if len(row) == 2 or class_of(standing)[2] in ("edge", "cell"):
                    self.assertFalse([come for come in log if len(set(come)) == 1])
        self.assertGreater(twice, 5)

    def test_edges(self):
        self.assertEqual(meet_foe(((0, 0), (2, 0)), EAST, 0), (((0, 0), (2, 0)),))
        self.assertEqual(meet_foe(((2, 0), (0, 0)), EAST, 2), (((2, 0), (0, 0)), ((1, 0), (0, 0)), ((0, 0), (1, 0))))
        self.assertEqual(meet_foe(((0, 0), (2, 0)), STAY, 3), (((0, 0), (2, 0)),) * 4)
        self.assertEqual(meet_foe(((0, 0), (2, 0)), HOUSE, 2), (((0, 0), (2, 0)),) * 3)

    def test_all_on_one_place(self):
        # Four about a place come together, and then nobody steps.
        ring = ((1, 0), (2, 1), (1, 2), (0, 1))
        log = meet_foe(ring, INWARDS, 3)
        self.assertEqual(log, (ring,) + (((1, 1),) * 4,) * 3)
        self.assertEqual(log, expected_foe(ring, INWARDS, 3))

    def test_places_are_seen_once(self):
        rule = read_rule("when many = 2 go north\nwhen rank < 2 go along(sumx, sumy)")
        line = ((0, 0), (1, 0), (5, 0), (6, 0))
        log = meet_foe(line, rule, 2)
        self.assertEqual(log, (line, ((1, 0),) * 2 + ((5, 0),) * 2, ((1, 1),) * 2 + ((5, -1),) * 2))

    def test_two_alone_once(self):
        # This comes once at most: behind it their distance is odd.
        for row in (((0, 0), (0, 4)), ((3, 0), (-3, 0)), ((0, 0), (2, 2))):
            log = meet_foe(row, INWARDS, 20)
            alone = [k for k in range(20) if log[k][1] == log[k + 1][1] != log[k][0] != log[k + 1][0]]
            self.assertLessEqual(len(alone), 1)
            self.assertFalse([come for come in log if come[0] == come[1]])

    def test_long(self):
        self.assertEqual(len(meet_foe(((0, 0), (2, 0)), EAST, 2000)), 2001)

    def test_not_held(self):
        for standing in SAMPLES:
            if class_of(standing)[0] != "held":
                with self.assertRaises(NotHeld) as caught:
                    meet_foe(standing[::-1], EAST, 3)
                self.assertEqual(vars(caught.exception), {"told": class_of(standing)})

    def test_wrong_inputs(self):
        for wrong in BAD_ROWS:
            self.refused("row", wrong, None, None)
        for wrong in (None, "", (), "else go east", EAST[:3], Motion(0, 0, 0)):
            self.refused("rule", ELL, wrong, None)
        for wrong in BAD_INTEGERS + [-1]:
            self.refused("many", ELL, EAST, wrong)

    def refused(self, word, *given):
        with self.assertRaises(NotUsable) as caught:
            meet_foe(*given)
        self.assertEqual(vars(caught.exception), {"word": word, "at": -1}, given)


if __name__ == "__main__":
    unittest.main()
