"""[45] to [51]: homes, near ones, pictures, wants, wished places, the one who moves and what is left."""

import random
import unittest

from compassless.centres import sum_of
from compassless.errors import NotUneven, NotUsable
from compassless.folds import class_of
from compassless.forms import alike, carrier_of, form_of
from compassless.homes import body_of, home_of, top_of
from compassless.leasts import least_total
from compassless.motions import behind, carried, moved
from compassless.nears import near_of
from compassless.pictures import picture_of
from compassless.pushes import after_moves
from compassless.roads import last_on, road
from compassless.standings import side_of
from compassless.tables import distance_table
from compassless.turns import cone_turn, turned
from compassless.unevenlefts import uneven_left, uneven_most
from compassless.unevenmoves import uneven_move
from compassless.views import view_of
from compassless.wants import want_of, want_parts
from compassless.weights import far_ones, leader_of
from compassless.wished import wished_of, wished_table, wished_y
from tests.samples import BAD_INTEGERS, BAR, ELL, MOTIONS, OFF, SAMPLES, SQUARE, STEPS, UNEVEN, ZIG, of_class
from tests.test_tables import by_trying

FAR = ((0, 0), (0, 2), (1, 1), (40, 1))
ESS = ((0, 0), (1, 0), (1, 1), (2, 1))
PAIR = ((0, 0), (5, 1))
LARGE = [standing for standing in SAMPLES if len(standing) > 2]
UNEVENS = of_class("uneven")
OTHERS = [standing for standing in LARGE if class_of(standing) != UNEVEN]
NEAR_MOTIONS = [motion for motion in MOTIONS if abs(motion[1]) < 100]


def draw_twins(seed, times, most=10):
    """Pairs of an uneven standing and a figure of as many places, of any class."""
    rng = random.Random(seed)
    for standing in UNEVENS:
        if len(standing) <= most:
            figures = [figure for figure in LARGE if len(figure) == len(standing)]
            for figure in rng.sample(figures, min(times, len(figures))):
                yield standing, figure


def step_out(standing, away):
    """The standing with its leader so much further away: where WANT may be 0."""
    turn, leader, others = picture_of(standing)
    return carried(((4 - turn) % 4, 0, 0), tuple(sorted(others + ((leader[0] + away, leader[1]),))))


def draw_far(seed, times, most=10):
    """The same pairs, the leader being so far out that WANT is 0."""
    for standing, figure in draw_twins(seed, times, most):
        yield step_out(standing, want_of(standing, side_of(figure))), figure


class Homes(unittest.TestCase):
    def test_of_the_form(self):
        for figure in LARGE:
            form = form_of(figure)
            self.assertEqual(top_of(figure), max(form))
            self.assertEqual(top_of(figure=figure), max(form))
            self.assertEqual(body_of(figure), tuple(sorted(set(form) - {max(form)})))
            self.assertEqual(body_of(figure=figure), body_of(figure))
            for many in (0, 1, 2, 7, 2000):
                x, y = max(form)
                due = tuple(sorted(body_of(figure) + ((x + many, y),)))
                self.assertEqual(home_of(figure, many), due)
                self.assertEqual(home_of(many=many, figure=figure), due)
            self.assertEqual(home_of(figure, 0), form)

    def test_carried(self):
        for figure in LARGE:
            for motion in MOTIONS:
                self.assertEqual(home_of(carried(motion, figure), 3), home_of(figure, 3))
                self.assertEqual(top_of(carried(motion, figure)), top_of(figure))

    def test_homes_are_uneven_and_unlike(self):
        # (G5)
        for figure in LARGE:
            homes = [home_of(figure, many) for many in range(6)]
            self.assertEqual({class_of(home) for home in homes[1:]}, {UNEVEN})
            self.assertEqual(len({form_of(home) for home in homes}), 6)


class Near(unittest.TestCase):
    def test_homes_that_are_carried(self):
        for figure in LARGE:
            for many in (1, 2, 5, 40):
                home = home_of(figure, many)
                for motion in NEAR_MOTIONS:
                    standing = carried(motion, home)
                    self.assertEqual(near_of(standing, figure), (many, motion))
                    self.assertEqual(near_of(figure=figure, standing=standing), (many, motion))

    def test_alike_is_not_near(self):
        for figure in UNEVENS:
            for motion in NEAR_MOTIONS:
                self.assertIsNone(near_of(carried(motion, figure), figure))

    def test_all_others(self):
        found = {True: 0, False: 0}
        for standing, figure in draw_twins(46, 9):
            out = step_out(figure, 2) if class_of(figure) == UNEVEN else standing
            for other in (standing, step_out(standing, 3), out):
                due = None
                for many in range(1, side_of(other) + 2):
                    motion = carrier_of(home_of(figure, many), other)
                    if motion is not None:
                        due = (many, motion)
                self.assertEqual(near_of(other, figure), due)
                found[due is None] += 1
        self.assertGreater(min(found.values()), 0)


class Pictures(unittest.TestCase):
    def test_word_by_word(self):
        for standing in UNEVENS:
            for motion in NEAR_MOTIONS:
                self.check(carried(motion, standing))

    def check(self, standing):
        many, (x, y), leader = len(standing), sum_of(standing), leader_of(standing)
        turn = cone_turn((many * leader[0] - x, many * leader[1] - y))
        others = tuple(sorted(turned(turn, place) for place in standing if place != leader))
        self.assertEqual(picture_of(standing), (turn, turned(turn, leader), others))
        self.assertEqual(picture_of(standing=standing), picture_of(standing))

    def test_the_same_in_each_frame(self):
        for standing in UNEVENS:
            _, leader, others = picture_of(standing)
            for motion in NEAR_MOTIONS:
                _, there, come = picture_of(carried(motion, standing))
                shift = (there[0] - leader[0], there[1] - leader[1])
                self.assertEqual(come, tuple((x + shift[0], y + shift[1]) for x, y in others))


class Wants(unittest.TestCase):
    def test_word_by_word(self):
        for standing in UNEVENS:
            _, leader, others = picture_of(standing)
            box = [max(p[k] for p in others) - min(p[k] for p in others) for k in range(2)]
            for side in (0, 1, 5, 14, 200, 10**30):
                bound = len(standing) + max(max(box), side)
                high = max(abs(leader[1] - y) for _, y in others)
                ahead = leader[0] - max(x for x, _ in others)
                due = (max(box), bound, high, ahead)
                self.assertEqual(want_parts(standing, side), due)
                self.assertEqual(want_parts(side=side, standing=standing), due)
                want = max(0, 5 * (bound + high) - ahead)
                self.assertEqual(want_of(standing, side), want)
                self.assertEqual(want_of(side=side, standing=standing), want)

    def test_just_no_more(self):
        for standing in UNEVENS:
            want = want_of(standing, 4)
            for more in (0, 1, 7):
                self.assertEqual(want_of(step_out(standing, want + more), 4), 0)
            if want:
                self.assertEqual(want_of(step_out(standing, want - 1), 4), 1)

    def test_far_out_the_leader_is_alone(self):
        # [51]: whoever else steps, and if the leader steps up or down, it stays so.
        for standing in UNEVENS:
            far = step_out(standing, want_of(standing, 0))
            turn, leader, _ = picture_of(far)
            self.assertEqual(far_ones(far), (leader_of(far),))
            for place in far:
                for step in STEPS:
                    if place != leader_of(far):
                        self.check_step(far, place, step, turn)
            for step in ((0, 1), (0, -1)):
                self.check_step(far, leader_of(far), turned((4 - turn) % 4, step), turn)

    def check_step(self, far, place, step, turn):
        goal = (place[0] + step[0], place[1] + step[1])
        if goal not in far:
            come = after_moves(far, ((place, step),))
            leader = goal if place == leader_of(far) else leader_of(far)
            self.assertEqual(far_ones(come), (leader,))
            self.assertEqual(class_of(come), UNEVEN)
            self.assertEqual(picture_of(come)[0], turn)


class Wished(unittest.TestCase):
    def test_word_by_word(self):
        for standing, figure in list(draw_twins(49, 5)) + list(draw_far(50, 3)) + [(s, s) for s in UNEVENS]:
            _, _, others = picture_of(standing)
            body = body_of(figure)
            shift = (min(others)[0] - min(body)[0], min(others)[1] - min(body)[1])
            places = tuple(sorted((x + shift[0], y + shift[1]) for x, y in body))
            self.assertEqual(wished_of(standing, figure), places)
            self.assertEqual(wished_y(standing, figure), top_of(figure)[1] + shift[1])
            self.assertEqual(wished_table(standing, figure), distance_table(others[1:], places[1:]))
            for call in (wished_of, wished_y, wished_table):
                self.assertEqual(call(figure=figure, standing=standing), call(standing, figure))

    def test_near_ones_too(self):
        for figure in LARGE:
            home = home_of(figure, 900)
            turn, leader, others = picture_of(home)
            if turn == 0:
                self.assertEqual((wished_of(home, figure), wished_y(home, figure)), (others, leader[1]))


def expected_move(standing, figure):
    """The move of the rule of the house in an uneven standing, word by word as [10] tells it."""
    if alike(standing, figure):
        return None
    near = near_of(standing, figure)
    x, y = top_of(figure)
    if near is not None:
        start, goal = moved(near[1], (x + near[0], y)), moved(near[1], (x + near[0] - 1, y))
        return start, (goal[0] - start[0], goal[1] - start[1])
    turn, leader, others = picture_of(standing)
    wished = wished_of(standing, figure)
    if want_of(standing, side_of(figure)) > 0:
        place, step = leader, (1, 0)
    elif others != wished:
        table = wished_table(standing, figure)
        partners = by_trying(table)[1]
        t = min(goal for goal in wished if goal not in others)
        p = next(others[1 + i] for i in range(len(table)) if wished[1 + partners[i]] == t)
        way = road(p, t)
        k = last_on(way, others)
        place, step = way[k], (way[k + 1][0] - way[k][0], way[k + 1][1] - way[k][1])
    else:
        place, step = leader, (0, 1 if wished_y(standing, figure) > leader[1] else -1)
    return turned((4 - turn) % 4, place), turned((4 - turn) % 4, step)


class Moves(unittest.TestCase):
    def check(self, standing, figure):
        move = uneven_move(standing, figure)
        self.assertEqual(move, expected_move(standing, figure), (standing, figure))
        self.assertEqual(uneven_move(figure=figure, standing=standing), move)
        return move

    def test_word_by_word(self):
        for standing, figure in draw_twins(50, 6, 8):
            self.check(standing, figure)
        for standing, figure in draw_far(51, 4, 8):
            self.check(standing, figure)

    def test_just_one_more(self):
        # WANT is 1, so the leader still goes first.
        for standing, figure in draw_twins(58, 2):
            want = want_of(standing, side_of(figure))
            if want and not alike(standing, figure):
                last = step_out(standing, want - 1)
                turn = picture_of(last)[0]
                self.assertEqual(self.check(last, figure), (leader_of(last), turned((4 - turn) % 4, (1, 0))))

    def test_up_and_down(self):
        # The others stand as wished, so the leader goes to the wished y.
        for figure in LARGE:
            x, y = top_of(figure)
            for k in (-7, -1, 1, 4):
                standing = tuple(sorted(body_of(figure) + ((x + 900, y + k),)))
                self.assertEqual(uneven_left(standing, figure), (1, 1, 0, abs(k), 0))
                for motion in NEAR_MOTIONS:
                    step = turned(motion[0], (0, -1 if k > 0 else 1))
                    due = (moved(motion, (x + 900, y + k)), step)
                    self.assertEqual(self.check(carried(motion, standing), figure), due)

    def test_alike(self):
        for figure in UNEVENS:
            for motion in NEAR_MOTIONS:
                self.assertIsNone(uneven_move(carried(motion, figure), figure))
                self.assertEqual(uneven_left(carried(motion, figure), figure), (0, 0, 0, 0, 0))

    def test_near(self):
        for figure in LARGE:
            for many in (1, 2, 3, 30):
                home = home_of(figure, many)
                x, y = top_of(figure)
                for motion in NEAR_MOTIONS:
                    standing = carried(motion, home)
                    step = turned(motion[0], (-1, 0))
                    self.assertEqual(uneven_move(standing, figure), (moved(motion, (x + many, y)), step))
                    self.assertEqual(uneven_left(standing, figure), (1, 0, many, 0, 0))
                    come = after_moves(standing, (uneven_move(standing, figure),))
                    self.assertTrue(alike(come, home_of(figure, many - 1)))

    def test_carried(self):
        for standing, figure in list(draw_twins(52, 2)) + list(draw_far(53, 2)):
            place, step = self.check_any(standing, figure)
            for motion in NEAR_MOTIONS:
                goal = carried(motion, standing)
                due = (moved(motion, place), turned(motion[0], step)) if place else None
                self.assertEqual(uneven_move(goal, figure), due)
                self.assertEqual(uneven_left(goal, figure), uneven_left(standing, figure))
                self.assertEqual(uneven_move(standing, carried(motion, figure)), uneven_move(standing, figure))

    def test_entries_of_ten_to_the_nine(self):
        for motion in ((3, 10**9, -(10**9)), (1, -(10**9), 10**9)):
            for standing, figure in draw_far(57, 1):
                place, step = self.check_any(standing, figure)
                due = (moved(motion, place), turned(motion[0], step)) if place else None
                self.assertEqual(uneven_move(carried(motion, standing), figure), due)
                self.assertEqual(uneven_left(carried(motion, standing), figure), uneven_left(standing, figure))

    def check_any(self, standing, figure):
        return uneven_move(standing, figure) or (None, None)

    def test_all_see_the_same_move(self):
        # (G5): whoever looks, in whatever frame, the same robot makes the same step.
        for standing, figure in draw_far(54, 1, 6):
            place, step = self.check_any(standing, figure)
            for eye in standing if place else ():
                for frame in range(4):
                    view = view_of(standing, eye, frame)
                    due = (moved(behind((frame, 0, 0), (0, -eye[0], -eye[1])), place), turned(frame, step))
                    self.assertEqual(uneven_move(view, figure), due)

    def test_left(self):
        for standing, figure in list(draw_twins(55, 3)) + list(draw_far(56, 3)):
            found = uneven_left(standing, figure)
            self.assertEqual(uneven_left(figure=figure, standing=standing), found)
            if alike(standing, figure):
                self.assertEqual(found, (0, 0, 0, 0, 0))
            elif near_of(standing, figure):
                self.assertEqual(found, (1, 0, near_of(standing, figure)[0], 0, 0))
            else:
                total = least_total(wished_table(standing, figure))
                rest = abs(picture_of(standing)[1][1] - wished_y(standing, figure))
                self.assertEqual(found, (1, 1, total, rest, want_of(standing, side_of(figure))))

    def test_most(self):
        for many in (0, 1, 3, 10, 77):
            for side in (0, 1, 40):
                for other in (0, 2, 200):
                    due = (2 * many + 19) * (side + other) + 10 * many
                    self.assertEqual(uneven_most(many, side, other), due)
                    self.assertEqual(uneven_most(other=other, side=side, many=many), due)


class Errors(unittest.TestCase):
    BOTH = (near_of, wished_of, wished_y, wished_table, uneven_move, uneven_left)

    def raised(self, error, fields, call, *given):
        with self.assertRaises(error) as caught:
            call(*given)
        self.assertEqual((type(caught.exception), vars(caught.exception)), (error, fields), given)

    def test_not_uneven(self):
        for standing in OTHERS:
            told = {"told": class_of(standing)}
            figures = [figure for figure in LARGE if len(figure) == len(standing)]
            for call in self.BOTH:
                for figure in figures[:2] + [standing]:
                    self.raised(NotUneven, told, call, standing, figure)
            self.raised(NotUneven, told, picture_of, standing)
            self.raised(NotUneven, told, want_parts, standing, 3)
            self.raised(NotUneven, told, want_of, standing, 3)

    def test_behind_the_parameters(self):
        for call in self.BOTH:
            self.raised(NotUsable, {"word": "figure", "at": -1}, call, SQUARE, BAR)
            self.raised(NotUsable, {"word": "figure", "at": -1}, call, SQUARE, None)
        for call in (want_parts, want_of):
            for wrong in BAD_INTEGERS + [-1]:
                self.raised(NotUsable, {"word": "side", "at": -1}, call, ZIG, wrong)

    def test_two_places(self):
        for call in self.BOTH:
            self.raised(NotUsable, {"word": "standing", "at": -1}, call, PAIR, PAIR)
            self.raised(NotUsable, {"word": "figure", "at": -1}, call, ELL, PAIR)
        for call in (top_of, body_of):
            self.raised(NotUsable, {"word": "figure", "at": -1}, call, PAIR)
        self.raised(NotUsable, {"word": "figure", "at": -1}, home_of, PAIR, None)
        self.raised(NotUsable, {"word": "standing", "at": -1}, picture_of, PAIR)
        self.raised(NotUsable, {"word": "standing", "at": -1}, want_parts, PAIR, None)
        self.raised(NotUsable, {"word": "standing", "at": -1}, want_of, PAIR, 0)

    def test_uneven_with_a_centre(self):
        self.assertEqual(picture_of(OFF), (0, (5, 0), ((0, 0), (1, 0))))
        self.assertEqual(uneven_move(OFF, BAR), ((5, 0), (1, 0)))


if __name__ == "__main__":
    unittest.main()
