"""[37], [38] and, of [40], the lots: inner and outer rows, level lots, and greatest lots."""

import random
import time
import unittest
from fractions import Fraction
from itertools import combinations
from math import gcd

from pairdyes.errors import NotEven, NotPlain
from pairdyes.lots import greatest_lot, inner_row, is_level, outer_row
from pairdyes.shades import idle_table, second_table
from tests import samples
from tests.samples import THREE, TWO, WAY


def some_lots(n):
    """Some lots of n places: single places, all places, and others."""
    found = [(0,), (n - 1,), tuple(range(n)), tuple(range(0, n, 2)), tuple(range((n + 1) // 2))]
    for seed in range(4):
        source = random.Random(10 * n + seed)
        found.append(tuple(sorted(source.sample(range(n), source.randint(1, n)))))
    return sorted(set(found))


def all_lots(n):
    """All lots of n places."""
    return [lot for many in range(1, n + 1) for lot in combinations(range(n), many)]


def plain_inner(dyeing, lot):
    """The inner row as fractions, dye by dye."""
    dyes = range(samples.plain_dye_count(dyeing))
    return [Fraction(sum(1 for x in lot for y in lot if dyeing[x][y] == dye), len(lot)) for dye in dyes]


def plain_outer(dyeing, lot):
    """The outer row as fractions, by the sum of the point."""
    table = second_table(dyeing)
    inner = plain_inner(dyeing, lot)
    dyes = range(len(inner))
    return [sum(inner[i] * Fraction(*table[i][j]) for i in dyes) for j in range(len(table))]


def kept_lots(dyeing, dyes):
    """All lots that are kept to the dyes."""
    return [lot for lot in all_lots(len(dyeing)) if all(dyeing[x][y] in dyes for x, y in combinations(lot, 2))]


def all_dyes(dyeing):
    """All tuples of dyes other than 0."""
    dyes = range(1, samples.plain_dye_count(dyeing))
    return [some for many in range(len(dyes) + 1) for some in combinations(dyes, many)]


class RowsTest(unittest.TestCase):
    def assert_ratios(self, row):
        self.assertIs(type(row), tuple)
        for entry in row:
            self.assertIs(type(entry), tuple)
            a, b = entry
            self.assertEqual((type(a), type(b)), (int, int))
            self.assertGreaterEqual(b, 1)
            self.assertEqual(gcd(a, b), 1)

    def test_inner_row_by_hand(self):
        self.assertEqual(inner_row(((0,),), (0,)), ((1, 1),))
        self.assertEqual(inner_row(TWO, (1,)), ((1, 1), (0, 1)))
        self.assertEqual(inner_row(TWO, (0, 1)), ((1, 1), (1, 1)))
        self.assertEqual(inner_row(WAY, (0, 1, 2)), ((1, 1), (4, 3), (2, 3)))
        self.assertEqual(inner_row(((0, 1), (2, 3)), (1,)), ((0, 1), (0, 1), (0, 1), (1, 1)))
        self.assertEqual(inner_row(((0, 0), (0, 0)), (0, 1)), ((2, 1),))

    def test_inner_row_of_any_dyeing(self):
        found = [dyeing for dyeing in samples.some_dyeings(6) if dyeing] + samples.plain_dyeings()
        for dyeing in found + samples.even_not_plain() + samples.not_even()[1:]:
            for lot in some_lots(len(dyeing)):
                told = inner_row(dyeing, lot)
                self.assert_ratios(told)
                self.assertEqual([Fraction(a, b) for a, b in told], plain_inner(dyeing, lot))

    def test_outer_row_by_hand(self):
        self.assertEqual(outer_row(((0,),), (0,)), ((1, 1),))
        self.assertEqual(outer_row(TWO, (0,)), ((1, 1), (1, 1)))
        self.assertEqual(outer_row(THREE, (0, 2)), ((2, 1), (1, 1)))
        self.assertEqual(outer_row(samples.hoop_dyeing(4), (0, 2)), ((2, 1), (0, 1), (2, 1)))
        self.assertEqual(outer_row(samples.cube_dyeing(3), (0, 1, 2)), ((3, 1), (11, 3), (1, 1), (1, 3)))

    def test_outer_row(self):
        for dyeing in samples.plain_dyeings():
            for lot in some_lots(len(dyeing)):
                told = outer_row(dyeing, lot)
                self.assert_ratios(told)
                row = [Fraction(a, b) for a, b in told]
                self.assertEqual(row, plain_outer(dyeing, lot))
                self.assertTrue(all(entry >= 0 for entry in row))
                self.assertEqual(row[0], len(lot))
                self.assertEqual(sum(row), len(dyeing))

    def test_when_an_entry_is_0(self):
        found = 0
        for dyeing in [samples.hoop_dyeing(6), samples.cube_dyeing(3), samples.xor_dyeing(3), samples.petersen_dyeing()]:
            for lot in some_lots(len(dyeing)):
                for j, entry in enumerate(outer_row(dyeing, lot)):
                    rows = idle_table(dyeing, j)
                    empty = all(sum(Fraction(*row[y]) for y in lot) == 0 for row in rows)
                    self.assertEqual(entry == (0, 1), empty)
                    found += empty
        self.assertGreater(found, 20)

    def test_is_level(self):
        cube = samples.cube_dyeing(3)
        self.assertIs(is_level(cube, (0, 7), ()), True)
        self.assertIs(is_level(cube, (0, 7), (1,)), True)
        self.assertIs(is_level(cube, (0, 7), (1, 3)), True)
        self.assertIs(is_level(cube, (0, 7), (2,)), False)
        self.assertIs(is_level(cube, (0, 7), (1, 2, 3)), False)
        self.assertIs(is_level(cube, (0, 7), (0, 1)), False)
        self.assertIs(is_level(cube, tuple(range(8)), (1, 2, 3)), True)
        self.assertIs(is_level(((0,),), (0,), ()), True)
        self.assertIs(is_level(((0,),), (0,), (0,)), False)
        for dyeing in samples.plain_dyeings():
            r = samples.plain_dye_count(dyeing)
            for lot in some_lots(len(dyeing)):
                row = plain_outer(dyeing, lot)
                for numbers in [(), tuple(range(r)), tuple(range(1, r)), tuple(range(1, r, 2)), (r - 1,)]:
                    self.assertIs(is_level(dyeing, lot, numbers), all(row[j] == 0 for j in numbers))

    def test_two_lots_that_are_level_between_them(self):
        found = 0
        for dyeing in [samples.hoop_dyeing(4), samples.cube_dyeing(3), samples.xor_dyeing(2), samples.blocks_dyeing(6, 2)]:
            n = len(dyeing)
            zeros = {
                lot: {j for j, entry in enumerate(plain_outer(dyeing, lot)) if entry == 0} for lot in all_lots(n)
            }
            shades = set(range(1, samples.plain_dye_count(dyeing)))
            for one in zeros:
                for other in zeros:
                    if shades <= zeros[one] | zeros[other]:
                        self.assertEqual(len(set(one) & set(other)) * n, len(one) * len(other))
                        found += len(one) < n and len(other) < n
        self.assertGreater(found, 20)

    def test_not_even_and_then_not_plain(self):
        calls = [
            (outer_row, ((0,),)), (outer_row, ((99,),)), (outer_row, (None,)), (is_level, ((0,), ())),
            (is_level, ((0,), (99,))), (is_level, (None, None)), (is_level, ((99,), (0,))),
        ]
        for function, rest in calls:
            for dyeing in samples.not_even():
                self.assertRaises(NotEven, function, dyeing, *rest)
            for dyeing in samples.even_not_plain():
                self.assertRaises(NotPlain, function, dyeing, *rest)


class GreatestLotTest(unittest.TestCase):
    def test_by_hand(self):
        self.assertEqual(greatest_lot(((0,),), ()), (0,))
        self.assertEqual(greatest_lot(TWO, ()), (0,))
        self.assertEqual(greatest_lot(TWO, (1,)), (0, 1))
        self.assertEqual(greatest_lot(samples.hoop_dyeing(5), (2,)), (0, 2))
        self.assertEqual(greatest_lot(samples.hoop_dyeing(6), (2,)), (0, 2, 4))
        self.assertEqual(greatest_lot(samples.hoop_dyeing(6), (2, 3)), (0, 2, 4))
        self.assertEqual(greatest_lot(samples.hoop_dyeing(7), (2, 3)), (0, 2, 4))
        self.assertEqual(greatest_lot(samples.cube_dyeing(4), (3, 4)), (0, 7))
        self.assertEqual(greatest_lot(samples.cube_dyeing(4), (2, 4)), (0, 3, 5, 6, 9, 10, 12, 15))

    def test_against_all_lots(self):
        found = [dyeing for dyeing in samples.plain_dyeings() if len(dyeing) <= 8]
        found += [samples.hoop_dyeing(n) for n in (5, 7, 8)]
        found += [samples.plain_numbered(samples.hoop_dyeing(n), samples.random_listing(n, n)) for n in (5, 7, 8)]
        for dyeing in found:
            for dyes in all_dyes(dyeing)[::1 if len(dyeing) < 8 else 5]:
                lots = kept_lots(dyeing, dyes)
                most = max(len(lot) for lot in lots)
                self.assertEqual(greatest_lot(dyeing, dyes), min(lot for lot in lots if len(lot) == most))

    def test_sixteen_places_without_a_long_run(self):
        xor = samples.xor_dyeing(4)
        begun = time.perf_counter()
        self.assertEqual(greatest_lot(xor, tuple(range(1, 16))), tuple(range(16)))
        self.assertEqual(greatest_lot(xor, ()), (0,))
        self.assertEqual(greatest_lot(xor, tuple(range(2, 16))), tuple(range(0, 16, 2)))
        self.assertEqual(greatest_lot(xor, (1, 2, 4, 8, 15)), (0, 1))
        self.assertEqual(greatest_lot(xor, tuple(range(8, 16))), (0, 8))
        self.assertEqual(greatest_lot(samples.even_dyeing(16), (1,)), tuple(range(16)))
        self.assertEqual(greatest_lot(samples.hoop_dyeing(16), (2, 4, 6, 8)), tuple(range(0, 16, 2)))
        self.assertEqual(greatest_lot(samples.hoop_dyeing(16), (3, 5, 6, 8)), (0, 3, 6, 11))
        for dyeing in (samples.shrikhande_dyeing(), samples.rook_dyeing(), samples.halves_dyeing(), xor):
            for dyes in all_dyes(dyeing)[::97] + all_dyes(dyeing)[:40]:
                lot = greatest_lot(dyeing, dyes)
                self.assertTrue(all(dyeing[x][y] in dyes for x, y in combinations(lot, 2)))
        self.assertLess(time.perf_counter() - begun, 30)

    def test_of_the_lots_of_two_sorts(self):
        for dyeing in [samples.hoop_dyeing(6), samples.cube_dyeing(4), samples.xor_dyeing(3), samples.rook_dyeing()]:
            n = len(dyeing)
            dyes = set(range(1, samples.plain_dye_count(dyeing)))
            for some in all_dyes(dyeing):
                one = greatest_lot(dyeing, some)
                other = greatest_lot(dyeing, tuple(sorted(dyes - set(some))))
                self.assertLessEqual(len(one) * len(other), n)
                if len(one) * len(other) == n:
                    self.assertEqual(len(set(one) & set(other)), 1)

    def test_not_even_and_then_not_plain(self):
        for dyeing in samples.not_even():
            for dyes in ((), (1,), (99,), None):
                self.assertRaises(NotEven, greatest_lot, dyeing, dyes)
        for dyeing in [samples.ring_dyeing(n) for n in (3, 4, 16)] + [samples.swaps_dyeing(), samples.turns_dyeing()]:
            for dyes in ((), (1,), (99,), None):
                self.assertRaises(NotPlain, greatest_lot, dyeing, dyes)


if __name__ == "__main__":
    unittest.main()
