"""[34]: census and fields; of [35] what speaks of these."""

import itertools
import math
import types
import unittest

from compassless.census import census, count_of
from compassless.errors import NotUsable
from compassless.fields import field_standings
from compassless.fittables import classes_by
from compassless.folds import class_of
from tests.samples import BAD_INTEGERS, UNEVEN, told_class

SMALL = [
    (many, wide, high)
    for many in range(2, 11)
    for wide in range(1, 7)
    for high in range(1, 7)
    if math.comb(wide * high, many) <= 2000
]


class Census(unittest.TestCase):
    def test_beside_the_classes_of_all_standings(self):
        for field in SMALL:
            counts = dict.fromkeys(classes_by(field[0]), 0)
            for standing in field_standings(*field):
                counts[class_of(standing)] += 1
            self.assertEqual(census(*field), tuple(counts.items()), field)

    def test_beside_the_classes_told_by_the_tests(self):
        for field in ((3, 3, 3), (4, 3, 4), (5, 3, 4), (4, 4, 4), (8, 3, 3), (9, 2, 5)):
            counts = dict.fromkeys(classes_by(field[0]), 0)
            for standing in field_standings(*field):
                counts[told_class(standing)] += 1
            self.assertEqual(census(*field), tuple(counts.items()), field)

    def test_adds_up(self):
        for many, wide, high in itertools.product(range(2, 11), range(1, 13), range(1, 13)):
            found = census(many, wide, high)
            self.assertEqual(tuple(told for told, _ in found), classes_by(many))
            self.assertEqual(sum(count for _, count in found), math.comb(wide * high, many))
            self.assertGreaterEqual(min(count for _, count in found), 0)

    def test_wide_and_high_exchanged(self):
        for many, wide, high in itertools.product(range(2, 11), (1, 2, 5, 7, 12), (1, 3, 6, 12)):
            self.assertEqual(census(many, wide, high), census(many, high, wide))

    def test_fewer_places_than_robots(self):
        self.assertEqual([count for _, count in census(2, 1, 1)], [0, 0, 0])
        self.assertEqual([count for _, count in census(10, 3, 3)], [0, 0, 0, 0])
        self.assertEqual(census(9, 3, 3), ((("pinned", 2, "place"), 0), (("pinned", 4, "place"), 1), (UNEVEN, 0)))

    def test_the_largest_field(self):
        # By hand: pairs of one centre in the field of 12 times 12, for each kind of centre.
        for many in range(2, 11):
            found = dict(census(many, 12, 12))
            for told in classes_by(many):
                if told != UNEVEN and told[1] == 4:
                    self.assertEqual(found[told], self.quarters(many, told[2]))
        self.assertEqual(dict(census(2, 12, 12))[("held", 2, "edge")], 2 * self.halves(0, 1))
        self.assertEqual(dict(census(2, 12, 12))[("held", 2, "cell")], self.halves(1, 1))
        self.assertEqual(dict(census(2, 12, 12))[("held", 2, "place")], self.halves(0, 0))
        self.assertEqual(dict(census(10, 12, 12))[UNEVEN] < math.comb(144, 10), True)

    def halves(self, odd_x, odd_y):
        """How many unordered pairs of unlike places of the field have a sum of these parities."""
        places = list(itertools.product(range(12), repeat=2))
        pairs = itertools.combinations(places, 2)
        return sum((p[0] + r[0]) % 2 == odd_x and (p[1] + r[1]) % 2 == odd_y for p, r in pairs)

    def quarters(self, many, kind):
        total = 0
        for x, y in itertools.product(range(23), repeat=2):
            if (x % 2, y % 2) == ((0, 0) if kind == "place" else (1, 1)):
                orbits = set()
                for a, b in itertools.product(range(12), repeat=2):
                    hats = [(2 * a - x, 2 * b - y)]
                    for _ in range(3):
                        hats.append((-hats[-1][1], hats[-1][0]))
                    spots = {((p + x) // 2, (q + y) // 2) for p, q in hats}
                    if len(spots) == 4 and all(0 <= p < 12 and 0 <= q < 12 for p, q in spots):
                        orbits.add(frozenset(spots))
                total += math.comb(len(orbits), many // 4)
        return total

    def test_count_of(self):
        for many in range(2, 11):
            for told, count in census(many, 5, 4):
                self.assertEqual(count_of(many, 5, 4, told), count)
                self.assertEqual(count_of(told=told, high=5, wide=4, many=many), count)
        self.assertEqual(census(high=3, wide=2, many=4), census(4, 2, 3))

    def test_wrong_told(self):
        wrong = [
            None,
            True,
            "uneven",
            [],
            (),
            ["uneven", 1, ""],
            ("uneven", True, ""),
            ("uneven", 1),
            ("uneven", 1, "", 0),
            ("uneven", 1, "place"),
            ("uneven", "1", ""),
            ("held", 1, "place"),
            ("held", 4, "edge"),
            ("held", 2, ""),
            ("pinned", 2, "place"),
            ("pinned", 4, "cell"),
        ]
        for told in wrong:
            self.refused("told", count_of, 4, 3, 3, told)
        self.refused("told", count_of, 6, 3, 3, ("held", 4, "cell"))
        self.refused("told", count_of, 3, 3, 3, ("pinned", 4, "place"))
        self.refused("told", count_of, 3, 3, 3, ("uneven", True, ""))
        self.refused("told", count_of, 2, 3, 3, UNEVEN)

    def refused(self, word, call, *given):
        with self.assertRaises(NotUsable) as caught:
            call(*given)
        self.assertEqual(vars(caught.exception), {"word": word, "at": -1}, given)

    def test_wrong_fields(self):
        for wrong in BAD_INTEGERS + [-1, 0, 13, 10**30]:
            for call, behind in ((census, ()), (count_of, (None,))):
                self.refused("many", call, wrong, wrong, wrong, *behind)
                self.refused("many", call, 1, 3, wrong, *behind)
                self.refused("many", call, 11, 3, 3, *behind)
                self.refused("wide", call, 4, wrong, wrong, *behind)
                self.refused("wide", call, 4, wrong, 3, *behind)
                self.refused("high", call, 4, 3, wrong, *behind)


class Fields(unittest.TestCase):
    def test_all_ascending(self):
        for many, wide, high in SMALL:
            places = list(itertools.product(range(wide), range(high)))
            due = list(itertools.combinations(places, many))
            self.assertEqual(list(field_standings(many, wide, high)), due)
            self.assertEqual(due, sorted(due))

    def test_is_a_generator(self):
        found = field_standings(high=2, wide=2, many=3)
        self.assertIsInstance(found, types.GeneratorType)
        self.assertEqual(next(found), ((0, 0), (0, 1), (1, 0)))
        self.assertEqual(len(list(found)), 3)

    def test_fewer_places_than_robots(self):
        self.assertEqual(list(field_standings(2, 1, 1)), [])
        self.assertEqual(list(field_standings(10, 3, 3)), [])
        self.assertEqual(len(list(field_standings(10, 2, 5))), 1)

    def test_thousands(self):
        self.assertEqual(sum(1 for _ in field_standings(4, 4, 4)), math.comb(16, 4))
        self.assertEqual(sum(1 for _ in field_standings(2, 10, 10)), math.comb(100, 2))

    def test_errors_come_with_the_first_one(self):
        for word, field in (("many", (1, 2, 2)), ("wide", (2, 0, 13)), ("high", (2, 12, 13)), ("many", (True, 0, 0))):
            found = field_standings(*field)
            with self.assertRaises(NotUsable) as caught:
                next(found)
            self.assertEqual(vars(caught.exception), {"word": word, "at": -1})


if __name__ == "__main__":
    unittest.main()
