"""[6]: finer and coarser."""

import unittest

from pairdyes.dyeings import dyeing_breach
from pairdyes.errors import NotFit
from pairdyes.orders import is_within, joined, met
from tests import samples
from tests.samples import THREE, TWO, WAY, pairs, plain_within


def plain_met(one, other):
    """`met` by the pairs of dyes."""
    n = len(one)
    return samples.plain_dyed([[(one[x][y], other[x][y]) for y in range(n)] for x in range(n)])


def plain_joined(one, other):
    """`joined` by going from pair to pair along either dyeing until nothing is added."""
    parts = {}
    for start in pairs(one):
        reached = [start]
        for x, y in reached:
            for u, v in pairs(one):
                if (u, v) not in reached and (one[x][y] == one[u][v] or other[x][y] == other[u][v]):
                    reached.append((u, v))
        parts[start] = min(reached)
    n = len(one)
    return samples.plain_dyed([[parts[x, y] for y in range(n)] for x in range(n)])


def some_couples():
    """Couples of dyeings of as many places."""
    every = samples.all_dyeings(2)
    found = [(one, other) for one in every for other in every]
    for n in (3, 4, 5):
        same = [dyeing for dyeing in samples.some_dyeings(5) if len(dyeing) == n]
        found += [(one, other) for one in same for other in same]
    return found


class OrdersTest(unittest.TestCase):
    def test_is_within_by_hand(self):
        self.assertIs(is_within((), ()), True)
        self.assertIs(is_within(((0,),), ((0,),)), True)
        self.assertIs(is_within(WAY, THREE), True)
        self.assertIs(is_within(THREE, WAY), False)
        self.assertIs(is_within(((0, 0), (1, 1)), ((0, 1), (0, 1))), False)
        self.assertIs(is_within(((0, 1), (0, 1)), ((0, 0), (1, 1))), False)
        self.assertIs(is_within(samples.full_dyeing(16), samples.even_dyeing(16)), True)
        self.assertIs(is_within(samples.even_dyeing(16), samples.full_dyeing(16)), False)
        self.assertIs(is_within(samples.even_dyeing(16), samples.single_dyeing(16)), True)

    def test_is_within_by_all_two_pairs(self):
        for one, other in some_couples():
            self.assertIs(is_within(one, other), plain_within(one, other))

    def test_a_dyeing_with_itself(self):
        for dyeing in samples.some_dyeings(16):
            self.assertIs(is_within(dyeing, dyeing), True)
            self.assertEqual(met(dyeing, dyeing), dyeing)
            self.assertEqual(joined(dyeing, dyeing), dyeing)

    def test_met_by_hand(self):
        self.assertEqual(met((), ()), ())
        self.assertEqual(met(((0, 0), (1, 1)), ((0, 1), (0, 1))), ((0, 1), (2, 3)))
        self.assertEqual(met(TWO, ((0, 0), (1, 1))), ((0, 1), (2, 3)))
        self.assertEqual(met(((0, 0), (0, 1)), ((0, 1), (1, 1))), ((0, 1), (1, 2)))
        self.assertEqual(met(samples.full_dyeing(16), samples.single_dyeing(16)), samples.full_dyeing(16))

    def test_joined_by_hand(self):
        self.assertEqual(joined((), ()), ())
        self.assertEqual(joined(((0, 0), (1, 1)), ((0, 1), (0, 1))), ((0, 0), (0, 0)))
        self.assertEqual(joined(((0, 0), (1, 2)), ((0, 1), (2, 2))), ((0, 0), (1, 1)))
        self.assertEqual(joined(((0, 1), (1, 2)), ((0, 1), (2, 0))), ((0, 1), (1, 0)))
        self.assertEqual(joined(((0, 1), (2, 2)), ((0, 1), (1, 2))), ((0, 1), (1, 1)))
        self.assertEqual(joined(samples.full_dyeing(16), samples.way_dyeing(16)), samples.way_dyeing(16))

    def test_met_and_joined_by_all_pairs_and_both_ways_round(self):
        for one, other in some_couples():
            self.assertEqual(met(one, other), plain_met(one, other))
            self.assertEqual(met(other, one), plain_met(one, other))
            self.assertEqual(joined(one, other), plain_joined(one, other))
            self.assertEqual(joined(other, one), plain_joined(one, other))

    def test_joined_is_the_finest_that_both_are_within(self):
        every = samples.all_dyeings(2)
        for one in every:
            for other in every:
                told = joined(one, other)
                self.assertTrue(plain_within(one, told) and plain_within(other, told))
                for third in every:
                    if plain_within(one, third) and plain_within(other, third):
                        self.assertTrue(plain_within(told, third))

    def test_long_chains_of_joined_dyes(self):
        n = 16
        code = [[n * x + y for y in range(n)] for x in range(n)]
        evens = samples.plain_dyed([[k // 2 for k in row] for row in code])
        odds = samples.plain_dyed([[(k + 1) // 2 for k in row] for row in code])
        back = samples.plain_dyed([[k for k in reversed(row)] for row in reversed(evens)])
        self.assertEqual(joined(evens, odds), samples.single_dyeing(n))
        self.assertEqual(joined(odds, evens), samples.single_dyeing(n))
        self.assertEqual(joined(odds, back), samples.single_dyeing(n))
        self.assertIsNone(dyeing_breach(met(evens, odds)))
        self.assertEqual(met(evens, odds), samples.full_dyeing(n))

    def test_unlike_numbers_of_places(self):
        for function in (is_within, met, joined):
            for one, other in [(0, 1), (1, 0), (0, 16), (16, 0), (2, 3), (3, 2), (16, 15), (7, 8)]:
                with self.assertRaises(NotFit):
                    function(samples.even_dyeing(one), samples.even_dyeing(other))


if __name__ == "__main__":
    unittest.main()
