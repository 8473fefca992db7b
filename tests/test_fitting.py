"""[29], [30] and [31], of [35] what speaks of these; (G3)."""

import itertools
import random
import unittest

from compassless.barpapers import bar_paper, lets_bar
from compassless.errors import InvalidPaper, NotHeld
from compassless.fitting import fits, why_of
from compassless.fittables import fit_both
from compassless.foeframes import foe_frames
from compassless.motions import carried
from compassless.orbits import orbits_of
from compassless.turns import turned
from compassless.views import view_of
from tests.samples import (
    BAD_INTEGERS,
    BAR,
    ELL,
    LINE,
    MOTIONS,
    OFF,
    PLUS,
    RING,
    SAMPLES,
    SQUARE,
    STEPS,
    TEE,
    UNEVEN,
    ZIG,
    of_class,
    told_class,
)


def shapes(standing):
    """All that come by a turn and then shifting, as sets."""
    found = []
    for turn in range(4):
        places = carried((turn, 0, 0), standing)
        low = (min(x for x, _ in places), min(y for _, y in places))
        found.append({(x - low[0], y - low[1]) for x, y in places})
    return found


def due_fit(standing, figure):
    """[8], by the classes that the tests tell themselves."""
    if len(standing) == 2:
        return shapes(figure)[0] in shapes(standing)
    word, fold, kind = told_class(standing)
    _, other, goal = told_class(figure)
    return word != "held" or other % fold == 0 and goal == kind


def pairs():
    """All two samples of as many places."""
    return [(s, f) for s in SAMPLES for f in SAMPLES if len(s) == len(f)]


class Fitting(unittest.TestCase):
    def test_fits(self):
        for standing, figure in pairs():
            self.assertIs(fits(standing, figure), due_fit(standing, figure), (standing, figure))
        self.assertIs(fits(figure=SQUARE, standing=ZIG), True)

    def test_why(self):
        words = {}
        for standing, figure in pairs():
            told = told_class(standing)
            if shapes(figure)[0] in shapes(standing):
                due = ("done",)
            elif len(standing) > 2 and told[0] != "held":
                due = ("free",)
            elif due_fit(standing, figure):
                due = ("kept",) + told[1:]
            else:
                due = ("barred",) + told[1:]
            self.assertEqual(why_of(standing, figure), due)
            words[due[0]] = words.get(due[0], 0) + 1
        self.assertEqual(sorted(words), ["barred", "done", "free", "kept"])
        self.assertEqual(why_of(figure=ZIG, standing=SQUARE), ("barred", 4, "cell"))

    def test_two_robots_are_done_or_barred(self):
        pair, other = ((0, 0), (1, 2)), ((0, 0), (1, 0))
        self.assertEqual(why_of(pair, carried((1, 5, 5), pair)), ("done",))
        self.assertEqual(why_of(pair, other), ("barred", 2, "edge"))
        self.assertEqual(why_of(((0, 0), (2, 0)), ((0, 0), (4, 0))), ("barred", 2, "place"))
        self.assertEqual((fits(pair, carried((3, 0, 1), pair)), fits(pair, other)), (True, False))

    def test_uneven_with_a_centre_is_free(self):
        self.assertEqual(why_of(OFF, ELL), ("free",))
        self.assertEqual((fits(OFF, BAR), fits(((0, 0), (1, 0), (2, 0), (5, 0)), SQUARE)), (True, True))

    def test_folds_and_kinds(self):
        self.assertEqual((fits(ZIG, RING), fits(RING, ZIG), fits(RING, SQUARE)), (False, False, False))
        self.assertEqual((fits(LINE, ZIG), fits(ZIG, LINE), fits(SQUARE, TEE)), (False, False, False))
        self.assertEqual((fits(TEE, SQUARE), fits(PLUS, PLUS[:1] + ((5, 5), (6, 6), (7, 7), (8, 8)))), (True, True))

    def test_carried(self):
        rng = random.Random(29)
        for standing, figure in pairs():
            one, other = rng.choice(MOTIONS), rng.choice(MOTIONS)
            goal = carried(other, figure)
            self.assertIs(fits(carried(one, standing), goal), fits(standing, figure))
            self.assertEqual(why_of(carried(one, standing), goal), why_of(standing, figure))

    def test_goes_on(self):
        # (G3)
        for many in range(2, 11):
            some = [standing for standing in SAMPLES if len(standing) == many]
            for one, two, three in itertools.product(some, repeat=3):
                if fits(one, two) and fits(two, three):
                    self.assertTrue(fits(one, three))

    def test_odd_numbers_fit_everything(self):
        for standing, figure in pairs():
            if len(standing) % 2:
                self.assertTrue(fits(standing, figure))

    def test_both(self):
        for standing, other in pairs():
            if len(standing) > 2:
                one, two = told_class(standing), told_class(other)
                due = one[0] != "held" and two[0] != "held" or one == two
                self.assertIs(fit_both(standing, other), due)


class Frames(unittest.TestCase):
    def test_all_of_an_orbit_see_the_same(self):
        for standing in of_class("held"):
            frames = foe_frames(standing)
            self.assertEqual(len(frames), len(standing))
            for orbit in orbits_of(standing):
                ks = [standing.index(place) for place in orbit]
                self.assertEqual(frames[ks[0]], 0)
                views = {view_of(standing, standing[k], frames[k]) for k in ks}
                self.assertEqual(len(views), 1)
                turns = {2: [0, 2], 4: [0, 1, 2, 3]}[len(orbit)]
                self.assertEqual(sorted(frames[k] for k in ks), turns)

    def test_far_away(self):
        for standing in of_class("held"):
            goal = carried((0, 10**29, -(10**29)), standing)
            self.assertEqual(foe_frames(goal), foe_frames(standing))

    def test_two_robots(self):
        for standing in SAMPLES:
            if len(standing) == 2:
                self.assertEqual(foe_frames(standing=standing), (0, 2))

    def test_not_held(self):
        for standing in of_class("uneven") + of_class("pinned"):
            with self.assertRaises(NotHeld) as caught:
                foe_frames(standing)
            self.assertEqual(vars(caught.exception), {"told": told_class(standing)})
        with self.assertRaises(NotHeld) as caught:
            foe_frames(OFF)
        self.assertEqual(vars(caught.exception), {"told": UNEVEN})


class Papers(unittest.TestCase):
    def refused(self, word, at, standing, figure, thing):
        shown = repr(thing)
        with self.assertRaises(InvalidPaper) as caught:
            lets_bar(standing, figure, thing)
        self.assertEqual(vars(caught.exception), {"word": word, "at": at}, (standing, figure, thing))
        self.assertEqual(repr(thing), shown)

    def test_given_and_accepted(self):
        given = 0
        for standing, figure in pairs():
            paper = bar_paper(standing, figure)
            if due_fit(standing, figure):
                self.assertIsNone(paper)
            else:
                given += 1
                self.assertEqual(paper, foe_frames(standing))
                self.assertEqual(lets_bar(standing, figure, paper), told_class(standing)[1])
        self.assertGreater(given, 100)
        self.assertEqual(lets_bar(thing=(0, 1, 3, 2), figure=ZIG, standing=SQUARE), 4)
        self.assertEqual(bar_paper(figure=ZIG, standing=SQUARE), (0, 1, 3, 2))

    def test_a_turn_added_to_an_orbit(self):
        rng = random.Random(31)
        for standing, figure in pairs():
            paper = bar_paper(standing, figure)
            if paper is not None:
                changed = list(paper)
                for orbit in orbits_of(standing):
                    turn = rng.randint(0, 3)
                    for place in orbit:
                        k = standing.index(place)
                        changed[k] = (paper[k] + turn) % 4
                self.assertEqual(lets_bar(standing, figure, tuple(changed)), told_class(standing)[1])

    def test_shape(self):
        for thing in BAD_INTEGERS + [(), [0, 1, 3, 2], (0, 1, 3), (0, 1, 3, 2, 0), (0, 1, 3, 4), (0, 1, 3, -1)]:
            self.refused("shape", -1, SQUARE, ZIG, thing)
            self.refused("shape", -1, TEE, SQUARE, thing)
        for wrong in BAD_INTEGERS:
            self.refused("shape", -1, SQUARE, ZIG, (wrong, 1, 3, 2))
            self.refused("shape", -1, SQUARE, ZIG, (0, 1, 3, wrong))

    def test_held(self):
        self.refused("held", -1, BAR, ELL, (0, 0, 0))
        self.refused("held", -1, OFF, ELL, (0, 0, 2))
        self.refused("held", -1, PLUS, PLUS, (0, 0, 0, 0, 0))

    def test_views(self):
        self.refused("views", 1, SQUARE, ZIG, (0, 0, 3, 2))
        self.refused("views", 2, SQUARE, ZIG, (0, 1, 0, 0))
        self.refused("views", 3, SQUARE, ZIG, (0, 1, 3, 0))
        # The views come ahead of fitting.
        self.refused("views", 2, ZIG, SQUARE, (0, 0, 0, 2))
        self.refused("views", 3, ZIG, SQUARE, (0, 0, 2, 0))

    def test_each_wrong_frame_is_found(self):
        for standing, figure in pairs():
            paper = bar_paper(standing, figure)
            if paper is None:
                continue
            for k in range(len(paper)):
                wrong = paper[:k] + ((paper[k] + 1) % 4,) + paper[k + 1 :]
                orbit = [o for o in orbits_of(standing) if standing[k] in o][0]
                at = k if standing[k] != orbit[0] else standing.index(orbit[1])
                self.refused("views", at, standing, figure, wrong)

    def test_fits(self):
        self.refused("fits", -1, ZIG, SQUARE, (0, 0, 2, 2))
        self.refused("fits", -1, ZIG, SQUARE, (1, 3, 1, 3))
        self.refused("fits", -1, SQUARE, SQUARE, (0, 1, 3, 2))

    def test_what_an_accepted_paper_states(self):
        # All woken, always in these frames: a rule gives one step for one view.
        rng = random.Random(35)
        for standing, figure in pairs():
            paper = bar_paper(standing, figure)
            if paper is not None and len(standing) > 2:
                self.check_kept(rng, standing, figure, paper)

    def check_kept(self, rng, standing, figure, frames):
        places = list(standing)
        rule = {}
        for _ in range(4):
            now = tuple(sorted(places))
            views = [view_of(now, places[k], frames[k]) for k in range(len(places))]
            steps = [rule.setdefault(view, rng.choice(STEPS)) for view in views]
            steps = [turned(-frame % 4, step) for frame, step in zip(frames, steps)]
            goals = [(x + a, y + b) for (x, y), (a, b) in zip(places, steps)]
            if len(set(goals)) < len(goals):
                return  # A clash: nothing comes.
            places = goals
            come = tuple(sorted(places))
            self.assertEqual(told_class(come)[1] % told_class(standing)[1], 0)
            self.assertNotIn(shapes(figure)[0], shapes(come))


if __name__ == "__main__":
    unittest.main()
