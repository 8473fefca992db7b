"""[53] and [54]: stances of held figures, their tops, bodies and homes; of [58] what speaks of these."""

import unittest

from compassless.errors import NotUsable
from compassless.folds import class_of, fold_of
from compassless.forms import form_of
from compassless.hats import hat_of, hats_of
from compassless.heldhomes import held_home, stance_body, tops_of
from compassless.motions import carried
from compassless.orbittables import is_kept
from compassless.stances import stances_of
from compassless.turns import cone_turn, turned
from compassless.weights import weight_of
from tests.samples import BAD_INTEGERS, BAD_STANDINGS, BAR, ELL, LINE, MOTIONS, PLUS, SQUARE, TEE, TIES, ZIG, of_class

PAIR = ((0, 0), (0, 1))
FIGURES = [figure for figure in of_class("held") if len(figure) > 2] + list(TIES)


def cases():
    """Each held figure, each fold that divides its own, and each number of a stance."""
    for figure in FIGURES:
        for fold in (2, 4):
            if fold_of(figure) % fold == 0:
                for stance in range(2 if class_of(figure)[2] == "edge" else 1):
                    yield figure, fold, stance


def size(hat):
    return hat[0] ** 2 + hat[1] ** 2


def turns_of(fold, hats):
    return tuple(sorted({turned(turn, hat) for hat in hats for turn in range(0, 4, 4 // fold)}))


class Stances(unittest.TestCase):
    def test_word_by_word(self):
        kinds = set()
        for figure in FIGURES:
            form = form_of(figure)
            most = max(weight_of(form, place) for place in form)
            top = hat_of(form, max(place for place in form if weight_of(form, place) == most))
            turn = cone_turn(top)
            due = [(carried((turn, 0, 0), hats_of(form)), turned(turn, top))]
            kinds.add(class_of(figure))
            if class_of(figure)[2] == "edge":
                x, y = turned((turn + 1) % 4, top)
                due.append((carried(((turn + 1) % 4, 0, 0), hats_of(form)), (-x, -y) if x < 0 else (x, y)))
            for fold in (2, 4)[: fold_of(figure) // 2]:
                self.assertEqual(stances_of(figure, fold), tuple(due))
                self.assertEqual(stances_of(fold=fold, figure=figure), tuple(due))
        self.assertEqual(len(kinds), 5)

    def test_an_edge_lies_in_both_ways(self):
        due = ((-3, 0), (-1, 0), (1, 0), (3, 0)), (3, 0)
        self.assertEqual(stances_of(LINE, 2)[0], due)
        self.assertEqual(stances_of(carried((1, 4, 9), LINE), 2), stances_of(LINE, 2))
        # The first top's hat comes to an x below 0, so the other end is the top of stance 1.
        due = {((0, 0), (1, 1), (2, 1), (3, 2)): (2, -3), ((0, 0), (0, 1), (2, 2), (2, 3)): (2, 3)}
        for figure, top in due.items():
            self.assertEqual(class_of(figure), ("held", 2, "edge"))
            self.assertEqual(stances_of(figure, 2)[1][1], top)

    def test_consequences(self):
        for figure, fold, stance in cases():
            hats, top = stances_of(figure, fold)[stance]
            self.assertTrue(all((x - top[0]) % 2 == 0 and (y - top[1]) % 2 == 0 for x, y in hats))
            self.assertIn(top, hats)
            self.assertEqual(size(top), max(size(hat) for hat in hats))
            self.assertGreaterEqual(top[0], 0)
            self.assertEqual(turns_of(fold, hats), hats)
            self.assertEqual(form_of(hats), form_of(carried((0, 0, 0), hats_of(figure))))

    def test_carried(self):
        for figure in FIGURES:
            for motion in MOTIONS[:8]:
                self.assertEqual(stances_of(carried(motion, figure), 2), stances_of(figure, 2))

    def test_both_stances_have_other_parities(self):
        for figure in FIGURES:
            if class_of(figure)[2] == "edge":
                one, two = stances_of(figure, 2)
                self.assertNotEqual(one[1][0] % 2, two[1][0] % 2)
                self.assertNotEqual(one[1][1] % 2, two[1][1] % 2)
                self.assertEqual(two[0], carried((1, 0, 0), one[0]))


class HeldHomes(unittest.TestCase):
    def test_word_by_word(self):
        for figure, fold, stance in cases():
            hats, (x, y) = stances_of(figure, fold)[stance]
            body = tuple(sorted(set(hats) - set(turns_of(fold, ((x, y),)))))
            self.assertEqual(stance_body(figure, fold, stance), body)
            self.assertEqual(stance_body(stance=stance, fold=fold, figure=figure), body)
            for many in (0, 1, 2, 9, 2000):
                tops = turns_of(fold, ((x + 2 * many, y),))
                self.assertEqual(tops_of(figure, fold, stance, many), tops)
                self.assertEqual(tops_of(many=many, stance=stance, fold=fold, figure=figure), tops)
                home = tuple(sorted(body + tops))
                self.assertEqual(held_home(figure, fold, stance, many), home)
                self.assertEqual(held_home(many=many, stance=stance, fold=fold, figure=figure), home)
            self.assertEqual(held_home(figure, fold, stance, 0), hats)

    def test_consequences(self):
        homes = {}
        for figure, fold, stance in cases():
            self.assertTrue(is_kept(fold, stance_body(figure, fold, stance)))
            for many in (1, 2, 5):
                home = held_home(figure, fold, stance, many)
                self.assertTrue(is_kept(fold, home))
                self.assertEqual(fold_of(home), fold)
                most = max(size(hat) for hat in home)
                far = tuple(hat for hat in home if size(hat) == most)
                self.assertEqual(far, tops_of(figure, fold, stance, many))
                forms = homes.setdefault((figure, fold), [])
                forms.append(form_of(home))
        for forms in homes.values():
            self.assertEqual(len(set(forms)), len(forms))

    def test_all_are_tops(self):
        self.assertEqual(stance_body(SQUARE, 4, 0), ())
        self.assertEqual(stance_body(SQUARE, 2, 0), ((-1, 1), (1, -1)))


class WrongInputs(unittest.TestCase):
    NOT_HELD = BAD_STANDINGS + [PAIR, BAR, ELL, TEE, PLUS]
    BAD_FOLDS = BAD_INTEGERS + [0, 1, 3, -2, 8]

    def refused(self, word, call, *given):
        with self.assertRaises(NotUsable) as caught:
            call(*given)
        self.assertEqual(vars(caught.exception), {"word": word, "at": -1}, given)

    def test_figure(self):
        for wrong in self.NOT_HELD:
            self.refused("figure", stances_of, wrong, None)
            self.refused("figure", stance_body, wrong, 2, 0)
            self.refused("figure", tops_of, wrong, 3, None, None)
            self.refused("figure", held_home, wrong, 2, 0, 1)

    def test_fold(self):
        for figure in (ZIG, LINE):
            for wrong in self.BAD_FOLDS + [4]:
                self.refused("fold", stances_of, figure, wrong)
                self.refused("fold", stance_body, figure, wrong, None)
                self.refused("fold", tops_of, figure, wrong, 0, 1)
                self.refused("fold", held_home, figure, wrong, None, None)
        for wrong in self.BAD_FOLDS:
            self.refused("fold", stances_of, SQUARE, wrong)

    def test_stance(self):
        for figure, wrong in ((SQUARE, 1), (ZIG, 1), (LINE, 2)):
            for bad in BAD_INTEGERS + [-1, wrong]:
                self.refused("stance", stance_body, figure, 2, bad)
                self.refused("stance", tops_of, figure, 2, bad, None)
                self.refused("stance", held_home, figure, 2, bad, 1)
        self.assertEqual(len(held_home(LINE, 2, 1, 1)), 4)

    def test_many(self):
        for bad in BAD_INTEGERS + [-1]:
            self.refused("many", tops_of, SQUARE, 4, 0, bad)
            self.refused("many", held_home, SQUARE, 4, 0, bad)


if __name__ == "__main__":
    unittest.main()
