"""[39] and [40]: prices of partners, and tables as objects; of [44] what speaks of prices."""

import itertools
import random
import unittest

from compassless.errors import InvalidPaper, NotUsable
from compassless.floorclasses import Motion
from compassless.leasts import least_partners, least_total
from compassless.prices import lets_prices, prices_of
from compassless.tableclasses import Table
from compassless.tables import distance_table, total_of
from tests.samples import BAR, ELL, HUGE
from tests.test_tables import NOT_TABLES, by_trying, random_table

NOT_TWO = [None, True, "01", [0, 1], (), (0,), (0, 0), (0, 2), (0, True), (False, 1), (0, 1, 2), (-1, 0)]


def tables(seed):
    """Tables of none to eight lines, of small and of the greatest numbers."""
    rng = random.Random(seed)
    found = [random_table(rng, size, most) for size in range(9) for most in (0, 1, 3, 20, HUGE) for _ in range(4)]
    return found + [tuple((7,) * 8 for _ in range(8)), distance_table(BAR, ELL)]


def are_prices(table, partners, thing):
    us, vs = thing
    size = len(table)
    fine = all(us[i] + vs[j] <= table[i][j] for i in range(size) for j in range(size))
    return fine and all(us[i] + vs[partners[i]] == table[i][partners[i]] for i in range(size))


class Prices(unittest.TestCase):
    def check(self, table, partners):
        found = prices_of(table, partners)
        total = total_of(table, partners)
        if total > least_total(table):
            self.assertIsNone(found, (table, partners))
            return
        self.assertEqual([type(part) for part in found], [tuple, tuple])
        self.assertEqual({len(part) for part in found}, {len(table)})
        self.assertTrue(are_prices(table, partners, found), (table, partners, found))
        self.assertEqual(sum(found[0]) + sum(found[1]), total)
        self.assertEqual(lets_prices(table, partners, found), total)

    def test_of_the_least_partners(self):
        for table in tables(39):
            self.check(table, least_partners(table))

    def test_of_all_partners(self):
        for table in tables(40):
            if len(table) <= 4:
                for partners in itertools.permutations(range(len(table))):
                    self.check(table, partners)

    def test_of_any_partners(self):
        rng = random.Random(41)
        for table in tables(42):
            partners = tuple(rng.sample(range(len(table)), len(table)))
            self.check(table, partners)
            self.assertEqual(prices_of(partners=partners, table=table), prices_of(table, partners))

    def test_none_and_one(self):
        self.assertEqual((prices_of((), ()), lets_prices((), (), ((), ()))), (((), ()), 0))
        us, vs = prices_of(((HUGE,),), (0,))
        self.assertEqual(us[0] + vs[0], HUGE)

    def test_a_long_ring(self):
        # Only all eight lines together can do better: each one takes the column of the next one.
        ring = tuple(tuple(1 if j == i else 0 if j == (i + 1) % 8 else 9 for j in range(8)) for i in range(8))
        self.assertIsNone(prices_of(ring, tuple(range(8))))
        self.check(ring, tuple((i + 1) % 8 for i in range(8)))
        chain = tuple(tuple(5 if j == i else 0 if j == i + 1 else 9 for j in range(8)) for i in range(8))
        for partners in (tuple(range(8)), least_partners(chain)):
            self.check(chain, partners)


class Checker(unittest.TestCase):
    TABLE = ((1, 4, 4), (4, 1, 4), (4, 4, 1))

    def refused(self, word, at, thing, table=TABLE, partners=(0, 1, 2)):
        shown = repr(thing)
        for given in ({"thing": thing, "partners": partners}, {"partners": partners, "thing": thing}):
            with self.assertRaises(InvalidPaper) as caught:
                lets_prices(table, **given)
            self.assertEqual(vars(caught.exception), {"word": word, "at": at}, shown)
        self.assertEqual(repr(thing), shown)

    def test_accepted(self):
        self.assertEqual(lets_prices(self.TABLE, (0, 1, 2), ((1, 1, 1), (0, 0, 0))), 3)
        self.assertEqual(lets_prices(self.TABLE, (0, 1, 2), ((-HUGE, -HUGE, -HUGE), (HUGE + 1,) * 3)), 3)
        table = distance_table(BAR, ELL)
        self.assertEqual(lets_prices(thing=((1, 2, 3), (-1, 0, -2)), partners=(0, 1, 2), table=table), 3)

    def test_shape(self):
        fine = (1, 1, 1)
        for thing in (
            None,
            True,
            7,
            "",
            (),
            [fine, fine],
            (fine,),
            (fine, fine, fine),
            (fine, [0, 0, 0]),
            ([1, 1, 1], fine),
            (fine, (0, 0)),
            ((1, 1), fine),
            ((1, 1, 1, 1), fine),
            (fine, (0, 0, False)),
            ((True, 1, 1), fine),
            (fine, (0, None, 0)),
            (fine, "000"),
            ((1, 1, "1"), fine),
            (fine, Motion(0, 0, 0)),
            Table(),
        ):
            self.refused("shape", -1, thing)
        self.refused("shape", -1, ((0,), ()), (), ())
        self.refused("shape", -1, ((), (0,)), (), ())

    def test_above(self):
        self.refused("above", 0, ((2, 1, 1), (0, 0, 0)))
        self.refused("above", 0, ((1, 1, 1), (0, 4, 0)))
        self.refused("above", 0, ((1, 1, 1), (0, 0, 4)))
        self.refused("above", 1, ((1, 1, 1), (0, 0, 0)), partners=(0, 2, 1), table=((1, 1, 1), (1, 0, 1), (1, 1, 1)))
        self.refused("above", 2, ((1, 1, 2), (0, 0, 0)))

    def test_unlike(self):
        self.refused("unlike", 0, ((0, 1, 1), (0, 0, 0)))
        self.refused("unlike", 1, ((1, 0, 9), (0, 0, 0)))
        self.refused("unlike", 2, ((1, 1, 0), (0, 0, 0)))
        self.refused("unlike", 0, ((1, 1, 1), (0, 0, 0)), partners=(1, 0, 2))

    def test_line_by_line(self):
        # Both are looked for in line 0 ahead of line 1, and above comes first in each line.
        self.refused("unlike", 0, ((0, 9, 1), (0, 0, 0)))
        self.refused("above", 0, ((0, 1, 1), (0, 9, 0)))
        self.refused("above", 0, ((9, 0, 1), (0, 0, 0)))
        self.refused("shape", -1, ((9, 0, 1), (0, 0)))

    def test_all_small_papers(self):
        for table in (((0, 1), (1, 0)), ((2, 2), (0, 1)), ((1, 0), (0, 3))):
            for partners in ((0, 1), (1, 0)):
                for a, b, c, d in itertools.product(range(-2, 3), repeat=4):
                    self.check_small(table, partners, ((a, b), (c, d)))

    def check_small(self, table, partners, thing):
        us, vs = thing
        for i in range(2):
            word = None
            if us[i] + vs[0] > table[i][0] or us[i] + vs[1] > table[i][1]:
                word = "above"
            elif us[i] + vs[partners[i]] < table[i][partners[i]]:
                word = "unlike"
            if word:
                self.refused(word, i, thing, table, partners)
                return
        self.assertEqual(lets_prices(table, partners, thing), by_trying(table)[0])

    def test_wrong_table_and_partners(self):
        for call in (lambda t, p: prices_of(t, p), lambda t, p: lets_prices(t, p, None)):
            for wrong in NOT_TABLES:
                self.unusable("table", call, wrong, None)
            for wrong in NOT_TWO:
                self.unusable("partners", call, ((0, 1), (1, 0)), wrong)
            self.unusable("partners", call, (), (0,))

    def unusable(self, word, call, *given):
        with self.assertRaises(NotUsable) as caught:
            call(*given)
        self.assertEqual(vars(caught.exception), {"word": word, "at": -1}, given)


class Tables(unittest.TestCase):
    def test_what_the_functions_tell(self):
        rng = random.Random(43)
        for lines in tables(44):
            table = Table(*lines)
            partners = tuple(rng.sample(range(len(lines)), len(lines)))
            self.assertEqual(table.total(partners), total_of(lines, partners))
            self.assertEqual(table.total(partners=partners), total_of(lines, partners))
            self.assertEqual((table.least(), table.best()), (least_total(lines), least_partners(lines)))
            self.assertTrue(are_prices(lines, table.best(), table.prices()))
            self.assertEqual(len(table), len(lines))

    def test_none(self):
        table = Table()
        self.assertEqual((len(table), table.least(), table.best(), table.prices()), (0, 0, (), ((), ())))
        self.assertEqual(table.total(()), 0)

    def test_equal(self):
        table = Table((0, 1), (1, 0))
        self.assertTrue(table == Table((0, 1), (1, 0)))
        self.assertIs(table == Table((0, 1), (1, 1)), False)
        for other in (((0, 1), (1, 0)), None, 0, Motion(0, 1, 1), Table(), [(0, 1), (1, 0)]):
            self.assertIs(table == other, False)
            self.assertIs(table != other, True)
        self.assertIs(Table() == Table(), True)
        self.assertIs(Table() == (), False)

    def test_wrong_lines(self):
        wrong = [(None,), (0,), ((),), ([0],), ("0",), ((True,),), ((-1,),), ((0, 1),), ((0, 1), (1,)), ((0,), (0,))]
        for lines in wrong + [((0, 1), [1, 0]), (((0,),),), tuple((0,) * 9 for _ in range(9))]:
            with self.assertRaises(NotUsable) as caught:
                Table(*lines)
            self.assertEqual(vars(caught.exception), {"word": "lines", "at": -1})

    def test_wrong_partners(self):
        for wrong in NOT_TWO:
            with self.assertRaises(NotUsable) as caught:
                Table((0, 1), (1, 0)).total(wrong)
            self.assertEqual(vars(caught.exception), {"word": "partners", "at": -1})


if __name__ == "__main__":
    unittest.main()
