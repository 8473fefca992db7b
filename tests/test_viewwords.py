"""[67]: the ten words; of [70] what speaks of these."""

import random
import unittest

from compassless.errors import NotUsable
from compassless.folds import class_of, fold_of
from compassless.forms import alike
from compassless.motions import carried
from compassless.orbits import orbit_of
from compassless.turns import turned
from compassless.views import lookalikes, view_of
from compassless.viewwords import word_of
from compassless.weights import weight_of
from tests.rulesamples import CALLS, OTHERS, SHORT_WAYS, WORDS
from tests.samples import BAD_STANDINGS, BAR, ELL, LINE, RING, SAMPLES, SQUARE, TEN, ZIG, centred_uneven

VIEWS = [view_of(standing, place, frame) for standing in SAMPLES for place in standing for frame in (0, 3)]


def expected(word, view, figure):
    xs, ys = [x for x, _ in view], [y for _, y in view]
    weights = [weight_of(view, place) for place in view]
    return {
        "many": len(view),
        "fold": fold_of(view),
        "twins": len(lookalikes(view, (0, 0))),
        "rank": sum(weight > weight_of(view, (0, 0)) for weight in weights),
        "far": max(abs(x) + abs(y) for x, y in view),
        "wide": max(xs) - min(xs),
        "high": max(ys) - min(ys),
        "sumx": sum(xs),
        "sumy": sum(ys),
        "done": int(figure is not None and alike(view, figure)),
    }[word]


class Words(unittest.TestCase):
    def test_word_by_word(self):
        rng = random.Random(67)
        for view in VIEWS:
            for word in WORDS:
                figure = rng.choice(SAMPLES + [None, view])
                due = expected(word, view, figure)
                found = word_of(word, view, figure)
                self.assertEqual((type(found), found), (int, due), (word, view))
                self.assertEqual(word_of(figure=figure, view=view, word=word), due)

    def test_done(self):
        found = set()
        for view in VIEWS:
            for figure in (carried((1, 7, -3), view), TEN, BAR, SQUARE, ZIG, ((0, 0), (0, 1)), None):
                due = int(figure is not None and alike(view, figure))
                self.assertEqual(word_of("done", view, figure), due)
                found.add(due)
        self.assertEqual(found, {0, 1})

    def test_frames(self):
        # [70]: most words are the same in each frame; the others turn with it.
        for view in VIEWS:
            other = carried((1, 0, 0), view)
            for word in ("many", "fold", "twins", "rank", "far", "done"):
                self.assertEqual(word_of(word, other, ELL), word_of(word, view, ELL))
            self.assertEqual(word_of("wide", other, None), word_of("high", view, None))
            self.assertEqual(word_of("high", other, None), word_of("wide", view, None))
            sums = (word_of("sumx", view, None), word_of("sumy", view, None))
            self.assertEqual((word_of("sumx", other, None), word_of("sumy", other, None)), turned(1, sums))

    def test_twins(self):
        for view in VIEWS:
            alone = class_of(view)[0] == "uneven" or orbit_of(view, (0, 0)) == ((0, 0),)
            self.assertEqual(word_of("twins", view, None), 1 if alone else fold_of(view))

    def test_edges(self):
        bar = carried((0, -1, 0), BAR)
        # In the sequence of WORDS: many, fold, twins, rank, far, wide, high, sumx, sumy, done.
        self.assertEqual([word_of(word, bar, BAR) for word in WORDS], [3, 2, 1, 2, 1, 2, 0, 0, 0, 1])
        self.assertEqual([word_of(word, SQUARE, LINE) for word in WORDS], [4, 4, 4, 0, 2, 1, 1, 2, 2, 0])
        pair = ((-3, 7), (0, 0))
        self.assertEqual([word_of(word, pair, None) for word in WORDS], [2, 2, 2, 0, 10, 3, 7, -3, 7, 0])
        for view in centred_uneven():
            self.assertEqual((word_of("fold", view, None), word_of("twins", view, None)), (1, 1))

    def test_wrong_inputs(self):
        others = list(CALLS) + list(SHORT_WAYS) + list(OTHERS)
        for wrong in others + [None, True, 0, "", "Many", "many ", ("many",), ["many"], ()]:
            self.refused("word", wrong, None, 7)
            self.refused("word", wrong, ELL, None)
        for wrong in BAD_STANDINGS + [RING, ((1, 0), (2, 0))]:
            self.refused("view", "many", wrong, 7)
            self.refused("view", "done", wrong, None)
        for wrong in BAD_STANDINGS:
            if wrong is not None:
                for word in WORDS:
                    self.refused("figure", word, ELL, wrong)

    def refused(self, name, word, view, figure):
        with self.assertRaises(NotUsable) as caught:
            word_of(word, view, figure)
        self.assertEqual(vars(caught.exception), {"word": name, "at": -1}, (word, view, figure))


if __name__ == "__main__":
    unittest.main()
