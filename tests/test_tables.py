"""[38]: tables, partners and the least total."""

import itertools
import random
import unittest

from compassless.errors import NotUsable
from compassless.leasts import least_partners, least_total
from compassless.roads import distance, last_on, road
from compassless.tables import distance_table, is_partners, is_table, total_of
from tests.samples import BAD_INTEGERS, BAD_PLACES, ELEVEN, HUGE, SAMPLES

NOT_TABLES = [
    None,
    True,
    0,
    "",
    [],
    [()],
    ((),),
    (1,),
    ([0],),
    [(0,)],
    ((0,), (0,)),
    ((0, 1),),
    ((0, 1), (1,)),
    ((0, 1), (1, 0, 2)),
    ((0, 1), [1, 0]),
    ((-1,),),
    ((True,),),
    ((0, 1), (1, False)),
    ((None,),),
    (("0",),),
    tuple((0,) * 9 for _ in range(9)),
]


def random_table(rng, size, most):
    return tuple(tuple(rng.randint(0, most) for _ in range(size)) for _ in range(size))


def by_trying(table):
    """The least total and the least partners, by all partners."""
    size = len(table)
    ranked = [(sum(table[i][p[i]] for i in range(size)), p) for p in itertools.permutations(range(size))]
    return min(ranked)


class Tables(unittest.TestCase):
    def test_is_table(self):
        rng = random.Random(38)
        for size in range(9):
            table = random_table(rng, size, HUGE)
            self.assertIs(is_table(table), True)
            self.assertIs(is_table(thing=table), True)
        for thing in NOT_TABLES:
            self.assertIs(is_table(thing), False, thing)

    def test_is_partners(self):
        for many in range(5):
            for thing in itertools.product(range(-1, 5), repeat=many):
                self.assertIs(is_partners(many, thing), sorted(thing) == list(range(many)))
            for thing in itertools.permutations(range(many + 1)):
                self.assertIs(is_partners(many, thing), False)
                self.assertIs(is_partners(thing=thing, many=many + 1), True)
        for thing in (None, 2, "01", [0, 1], (0, True), (False, 1), (0, None), ((0,), 1), (0, "1"), (0, 1, 2), (0,)):
            self.assertIs(is_partners(2, thing), False, thing)
        self.assertIs(is_partners(0, []), False)
        self.assertIs(is_partners(2000, tuple(range(2000))[::-1]), True)

    def test_is_partners_refuses(self):
        for wrong in BAD_INTEGERS + [-1]:
            with self.assertRaises(NotUsable) as caught:
                is_partners(wrong, ())
            self.assertEqual(vars(caught.exception), {"word": "many", "at": -1})

    def test_total(self):
        rng = random.Random(39)
        for size in range(9):
            table = random_table(rng, size, HUGE)
            partners = tuple(rng.sample(range(size), size))
            due = sum(table[i][partners[i]] for i in range(size))
            self.assertEqual(total_of(table, partners), due)
            self.assertEqual(total_of(partners=partners, table=table), due)
        self.assertEqual(total_of((), ()), 0)

    def test_distance_table(self):
        rng = random.Random(40)
        for _ in range(100):
            size = rng.randint(0, 8)
            spots = list(itertools.product(range(-3, 4), repeat=2))
            places, goals = tuple(rng.sample(spots, size)), tuple(rng.sample(spots, size))
            due = tuple(tuple(distance(place, goal) for goal in goals) for place in places)
            self.assertEqual(distance_table(places, goals), due)
            self.assertEqual(distance_table(goals=goals, places=places), due)
            self.assertIs(is_table(due), True)
        self.assertEqual(distance_table((), ()), ())
        self.assertEqual(distance_table(((5, 5),), ((1, 1),)), ((8,),))

    def refused(self, word, call, *given):
        shown = repr(given)
        with self.assertRaises(NotUsable) as caught:
            call(*given)
        self.assertEqual(vars(caught.exception), {"word": word, "at": -1}, shown)
        self.assertEqual(repr(given), shown)

    def test_wrong_tables_and_partners(self):
        for wrong in NOT_TABLES:
            self.refused("table", total_of, wrong, (5,))
            self.refused("table", least_total, wrong)
            self.refused("table", least_partners, wrong)
        for wrong in [None, True, "01", [0, 1], (), (0,), (0, 0), (0, 2), (0, True), (False, 1), (0, 1, 2), (-1, 0)]:
            self.refused("partners", total_of, ((0, 1), (1, 0)), wrong)
        self.refused("partners", total_of, (), (0,))

    def test_wrong_places_and_goals(self):
        two = ((0, 0), (4, 4))
        for wrong in BAD_PLACES[:-1]:
            if wrong != ():
                self.refused("places", distance_table, wrong, wrong)
                self.refused("goals", distance_table, (), wrong)
            self.refused("places", distance_table, ((0, 0), wrong), None)
            self.refused("goals", distance_table, two, ((0, 0), wrong))
        self.refused("places", distance_table, ((0, 0), (0, 0)), two)
        self.refused("goals", distance_table, two, ((0, 0), (0, 0)))
        self.refused("places", distance_table, ELEVEN[:9], ELEVEN[:9])
        self.refused("goals", distance_table, ELEVEN[:8], ELEVEN[:9])
        self.refused("goals", distance_table, two, two[:1])
        self.refused("goals", distance_table, (), two)
        self.refused("places", distance_table, list(two), two)
        self.refused("goals", distance_table, two, list(two))


class Leasts(unittest.TestCase):
    def check(self, table):
        total, partners = by_trying(table)
        self.assertEqual(least_total(table), total, table)
        self.assertEqual(least_partners(table), partners, table)
        self.assertEqual(total_of(table, least_partners(table)), total)

    def test_beside_all_partners(self):
        rng = random.Random(41)
        for size in range(7):
            for most in (0, 1, 2, 5, 1000, HUGE):
                for _ in range(8 if size < 6 else 2):
                    self.check(random_table(rng, size, most))

    def test_eight_lines(self):
        rng = random.Random(42)
        self.check(random_table(rng, 8, 3))
        self.check(random_table(rng, 8, HUGE))

    def test_many_least_partners(self):
        flat = tuple((7,) * 8 for _ in range(8))
        self.assertEqual((least_total(flat), least_partners(flat)), (56, tuple(range(8))))
        sums = tuple(tuple(i + j for j in range(8)) for i in range(8))
        self.assertEqual((least_total(sums), least_partners(sums)), (56, tuple(range(8))))
        cross = ((1, 1, 0), (1, 1, 1), (0, 1, 1))
        self.assertEqual((least_total(table=cross), least_partners(table=cross)), (1, (2, 1, 0)))
        self.assertEqual(least_partners(((5, 5, 5), (5, 5, 5), (5, 5, 4))), (0, 1, 2))
        self.assertEqual(least_partners(((5, 5, 5), (4, 5, 5), (5, 5, 5))), (1, 0, 2))

    def test_none_and_one(self):
        self.assertEqual((least_total(()), least_partners(())), (0, ()))
        self.assertEqual((least_total(((HUGE,),)), least_partners(((HUGE,),))), (HUGE, (0,)))

    def test_of_distances(self):
        rng = random.Random(43)
        some = [standing for standing in SAMPLES if len(standing) <= 6]
        for _ in range(60):
            one = rng.choice(some)
            two = rng.choice([standing for standing in some if len(standing) == len(one)])
            self.check(distance_table(one, two))


class Totals(unittest.TestCase):
    def test_a_step_from_the_last_one_on_the_road(self):
        # (G4): it leads to a free place, and the least total is one less.
        rng = random.Random(44)
        for _ in range(150):
            size = rng.randint(1, 6)
            spots = list(itertools.product(range(-3, 4), repeat=2))
            places, goals = rng.sample(spots, size), rng.sample(spots, size)
            partners = least_partners(distance_table(tuple(places), tuple(goals)))
            for k in range(size):
                if goals[partners[k]] not in places:
                    self.check_step(places, tuple(goals), road(places[k], goals[partners[k]]))

    def check_step(self, places, goals, way):
        at = last_on(way, tuple(places))
        self.assertNotIn(way[at + 1], places)
        come = tuple(way[at + 1] if place == way[at] else place for place in places)
        total = least_total(distance_table(tuple(places), goals))
        self.assertEqual(least_total(distance_table(come, goals)), total - 1)


if __name__ == "__main__":
    unittest.main()
