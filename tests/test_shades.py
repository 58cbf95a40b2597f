"""[29] to [32]: plain dyeings, shades, ranks, the second table, second counts, and kinds of shades."""

import time
import unittest
from fractions import Fraction
from itertools import product
from math import gcd, prod

from pairdyes.closings import is_closed
from pairdyes.errors import NotEven, NotJoining, NotPlain
from pairdyes.joinings import closed_joinings, joined_dyes
from pairdyes.shades import idle_table, is_plain, ranks, second_counts, second_table, shade_kinds, shades
from tests import samples
from tests.samples import NO_CUTS, THREE, TWO, plain_counts, plain_degrees

# Each function of the points, with what else is passed: valid where there is a choice, and not.
CALLS = [
    (shades, ()), (ranks, ()), (second_table, ()), (idle_table, (0,)), (idle_table, (99,)), (idle_table, (-1,)),
    (idle_table, (None,)), (second_counts, ()), (shade_kinds, (((0,),),)), (shade_kinds, (None,)), (shade_kinds, ((),)),
]


def plain_shades(dyeing):
    """All shades, descending, by trying all rows whose entries are no farther from 0 than the degrees."""
    counts = plain_counts(dyeing)
    degrees = plain_degrees(dyeing)
    r = len(degrees)
    found = []
    for rest in product(*[range(-k, k + 1) for k in degrees[1:]]):
        p = (1,) + rest
        if is_shade(p, counts, r):
            found.append(p)
    return tuple(sorted(found, reverse=True))


def is_shade(p, counts, r):
    """Whether a row has 1 at first and keeps all equations of the point."""
    return p[0] == 1 and all(
        p[i] * p[j] == sum(counts[k, i, j] * p[k] for k in range(r)) for i in range(r) for j in range(r)
    )


def few_ways(dyeing):
    """Whether there are few enough rows to try all of them."""
    return prod(2 * k + 1 for k in plain_degrees(dyeing)[1:]) < 5000


def plain_ranks(dyeing, told):
    """The ranks of shades by the reckoning of the point."""
    degrees = plain_degrees(dyeing)
    return [len(dyeing) / sum(Fraction(p * p, k) for p, k in zip(shade, degrees)) for shade in told]


def second_entries(dyeing):
    """The numbers q(I, j) by the reckoning of the point."""
    told = shades(dyeing)
    degrees = plain_degrees(dyeing)
    return [
        [rank * shade[i] / degrees[i] for rank, shade in zip(plain_ranks(dyeing, told), told)] for i in range(len(told))
    ]


def times(one, other):
    """One table times another one."""
    columns = list(zip(*other))
    return [[sum(a * b for a, b in zip(row, column)) for column in columns] for row in one]


def fractions_of(table):
    """A table of ratios as fractions."""
    return [[Fraction(a, b) for a, b in row] for row in table]


def scaled(factor, table):
    """A table with all entries times a number."""
    return [[factor * entry for entry in row] for row in table]


def middle_table(n, entry):
    """A table with an entry at the middle pairs and 0 elsewhere."""
    return [[entry if x == y else 0 for y in range(n)] for x in range(n)]


class ShadesTest(unittest.TestCase):
    def assert_ratio(self, value):
        self.assertIs(type(value), tuple)
        a, b = value
        self.assertEqual((type(a), type(b)), (int, int))
        self.assertGreaterEqual(b, 1)
        self.assertEqual(gcd(a, b), 1)

    def test_plain_or_not(self):
        for dyeing in samples.plain_dyeings():
            self.assertIs(is_plain(dyeing), True)
        for dyeing in samples.not_even() + samples.even_not_plain():
            self.assertIs(is_plain(dyeing), False)

    def test_plain_by_the_number_of_shades(self):
        for dyeing in samples.even_dyeings():
            if few_ways(dyeing):
                own = all(dyeing[x][y] == dyeing[y][x] for x, y in samples.pairs(dyeing))
                expected = own and len(plain_shades(dyeing)) == samples.plain_dye_count(dyeing)
                self.assertIs(is_plain(dyeing), expected)

    def test_lots_of_plain_dyeings_side_by_side_are_not_plain(self):
        table = [[int(x != y) + 2 * (x // 3) + 4 * (y // 3) for y in range(6)] for x in range(6)]
        dyeing = samples.plain_dyed(table)
        self.assertTrue(is_closed(dyeing))
        self.assertIs(is_plain(dyeing), False)
        self.assertRaises(NotEven, shades, dyeing)

    def test_shades_by_hand(self):
        self.assertEqual(shades(((0,),)), ((1,),))
        self.assertEqual(shades(TWO), ((1, 1), (1, -1)))
        self.assertEqual(shades(THREE), ((1, 2), (1, -1)))
        self.assertEqual(shades(samples.even_dyeing(16)), ((1, 15), (1, -1)))
        self.assertEqual(shades(samples.hoop_dyeing(6)), ((1, 2, 2, 1), (1, 1, -1, -1), (1, -1, -1, 1), (1, -2, 2, -1)))
        self.assertEqual(shades(samples.petersen_dyeing()), ((1, 6, 3), (1, 1, -2), (1, -2, 1)))
        self.assertEqual(shades(samples.blocks_dyeing(12, 4)), ((1, 3, 8), (1, 3, -4), (1, -1, 0)))

    def test_shades_against_all_rows(self):
        tried = 0
        for dyeing in samples.plain_dyeings():
            if few_ways(dyeing):
                self.assertEqual(shades(dyeing), plain_shades(dyeing))
                tried += 1
        self.assertGreater(tried, 20)

    def test_shades_by_the_equations(self):
        for dyeing in samples.plain_dyeings():
            told = shades(dyeing)
            counts = plain_counts(dyeing)
            r = samples.plain_dye_count(dyeing)
            self.assertEqual(len(told), r)
            self.assertEqual(told, tuple(sorted(set(told), reverse=True)))
            self.assertEqual(list(told[0]), plain_degrees(dyeing))
            self.assertTrue(all(is_shade(shade, counts, r) for shade in told))
            self.assertTrue(all(type(entry) is int for shade in told for entry in shade))

    def test_sixteen_places_and_sixteen_dyes(self):
        # The shade of a takes b to 1 or -1 by how many binary digits are 1 in both.
        expected = [tuple((-1) ** (a & b).bit_count() for b in range(16)) for a in range(16)]
        self.assertEqual(shades(samples.xor_dyeing(4)), tuple(sorted(expected, reverse=True)))
        self.assertEqual(ranks(samples.xor_dyeing(4)), (1,) * 16)

    def test_many_dyes_without_a_long_run(self):
        begun = time.perf_counter()
        for dyeing in (samples.xor_dyeing(4), samples.halves_dyeing(), samples.cube_dyeing(4), samples.hoop_dyeing(16)):
            for function in (is_plain, shades, ranks, second_table, second_counts):
                if is_plain(dyeing):
                    function(dyeing)
        self.assertLess(time.perf_counter() - begun, 10)

    def test_not_even_and_then_not_plain(self):
        for function, rest in CALLS:
            for dyeing in samples.not_even():
                self.assertRaises(NotEven, function, dyeing, *rest)
            for dyeing in samples.even_not_plain():
                self.assertRaises(NotPlain, function, dyeing, *rest)

    def test_ranks(self):
        self.assertEqual(ranks(((0,),)), (1,))
        self.assertEqual(ranks(samples.cube_dyeing(4)), (1, 4, 6, 4, 1))
        self.assertEqual(ranks(samples.petersen_dyeing()), (1, 4, 5))
        self.assertEqual(ranks(samples.blocks_dyeing(12, 4)), (1, 2, 9))
        for dyeing in samples.plain_dyeings():
            told = ranks(dyeing)
            self.assertEqual(list(told), plain_ranks(dyeing, shades(dyeing)))
            self.assertTrue(all(type(rank) is int and rank >= 1 for rank in told))
            self.assertEqual(sum(told), len(dyeing))
            self.assertEqual(told[0], 1)

    def test_second_table_by_hand(self):
        self.assertEqual(second_table(((0,),)), (((1, 1),),))
        self.assertEqual(second_table(THREE), (((1, 1), (2, 1)), ((1, 1), (-1, 1))))
        self.assertEqual(
            second_table(samples.petersen_dyeing()),
            (((1, 1), (4, 1), (5, 1)), ((1, 1), (2, 3), (-5, 3)), ((1, 1), (-8, 3), (5, 3))),
        )
        self.assertEqual(
            second_table(samples.blocks_dyeing(6, 2)),
            (((1, 1), (2, 1), (3, 1)), ((1, 1), (2, 1), (-3, 1)), ((1, 1), (-1, 1), (0, 1))),
        )

    def test_second_table(self):
        for dyeing in samples.plain_dyeings():
            told = second_table(dyeing)
            r = samples.plain_dye_count(dyeing)
            for row in told:
                for entry in row:
                    self.assert_ratio(entry)
            table = fractions_of(told)
            self.assertEqual(table, second_entries(dyeing))
            self.assertEqual(times(shades(dyeing), table), middle_table(r, len(dyeing)))
            self.assertEqual(times(table, shades(dyeing)), middle_table(r, len(dyeing)))

    def test_idle_table(self):
        self.assertEqual(idle_table(((0,),), 0), (((1, 1),),))
        self.assertEqual(idle_table(TWO, 1), (((1, 2), (-1, 2)), ((-1, 2), (1, 2))))
        for dyeing in samples.plain_dyeings():
            if len(dyeing) < 13:
                self.check_idle_tables(dyeing)
        self.check_idle_tables(samples.cube_dyeing(4))

    def check_idle_tables(self, dyeing):
        n = len(dyeing)
        told = shades(dyeing)
        entries = second_entries(dyeing)
        tables = []
        for j in range(len(told)):
            idle = idle_table(dyeing, j)
            self.assertEqual([len(row) for row in idle], [n] * n)
            for x, y in samples.pairs(dyeing):
                self.assert_ratio(idle[x][y])
                self.assertEqual(Fraction(*idle[x][y]), entries[dyeing[x][y]][j] / n)
            tables.append(fractions_of(idle))
        for j, table in enumerate(tables):
            for other in tables:
                self.assertEqual(times(table, other), table if other is table else middle_table(n, 0))
            for i, entry in enumerate(told[j]):
                dye_table = [[int(dye == i) for dye in row] for row in dyeing]
                self.assertEqual(times(dye_table, table), scaled(entry, table))
        together = [[sum(table[x][y] for table in tables) for y in range(n)] for x in range(n)]
        self.assertEqual(together, middle_table(n, 1))

    def test_second_counts_by_hand(self):
        self.assertEqual(second_counts(((0,),)), ((((1, 1),),),))
        self.assertEqual(second_counts(THREE), ((((1, 1), (0, 1)), ((0, 1), (2, 1))), (((0, 1), (1, 1)), ((1, 1), (1, 1)))))
        self.assertEqual(second_counts(samples.petersen_dyeing())[1][1], ((1, 1), (2, 9), (25, 9)))

    def test_second_counts(self):
        for dyeing in samples.plain_dyeings():
            told = second_counts(dyeing)
            p = shades(dyeing)
            rank = plain_ranks(dyeing, p)
            degrees = plain_degrees(dyeing)
            q = second_entries(dyeing)
            indices = range(len(p))
            self.assertEqual([[len(row) for row in table] for table in told], [[len(p)] * len(p)] * len(p))
            d = {(k, i, j): Fraction(*told[k][i][j]) for k in indices for i in indices for j in indices}
            for k, i, j in d:
                self.assert_ratio(told[k][i][j])
                total = sum(Fraction(p[i][x] * p[j][x] * p[k][x], degrees[x] * degrees[x]) for x in indices)
                self.assertEqual(d[k, i, j], rank[i] * rank[j] / len(dyeing) * total)
                self.assertGreaterEqual(d[k, i, j], 0)
            for i in indices:
                for j in indices:
                    for x in indices:
                        self.assertEqual(q[x][i] * q[x][j], sum(d[k, i, j] * q[x][k] for k in indices))
                    most = rank[i] * rank[j] if i != j else rank[i] * (rank[i] + 1) / 2
                    self.assertLessEqual(sum(rank[k] for k in indices if d[k, i, j] != 0), most)

    def test_shade_kinds_by_hand(self):
        self.assertEqual(shade_kinds(((0,),), ((0,),)), ((0,),))
        square = samples.hoop_dyeing(4)
        self.assertEqual(shade_kinds(square, ((0,), (1,), (2,))), ((0,), (1,), (2,)))
        self.assertEqual(shade_kinds(square, ((0,), (1, 2))), ((0,), (1, 2)))
        six = samples.hoop_dyeing(6)
        self.assertEqual(shade_kinds(six, ((0,), (1, 3), (2,))), ((0,), (1, 2), (3,)))
        self.assertEqual(shade_kinds(six, ((0,), (1, 2), (3,))), ((0,), (1, 3), (2,)))
        self.assertEqual(shade_kinds(six, ((0,), (1,), (2, 3))), ((0,), (1,), (2,), (3,)))

    def test_shade_kinds(self):
        closed = 0
        for dyeing in samples.plain_dyeings():
            if samples.plain_dye_count(dyeing) > 5:
                continue
            for parts in samples.plain_joinings(tuple(range(1, samples.plain_dye_count(dyeing)))):
                joining = ((0,),) + tuple(sorted(tuple(sorted(part)) for part in parts))
                closed += self.check_kinds(dyeing, joining)
        self.assertGreater(closed, 40)

    def check_kinds(self, dyeing, joining):
        """Checks the kinds of a joining; returns whether what it gives is closed."""
        told = shades(dyeing)
        sums = [tuple(sum(shade[dye] for dye in part) for part in joining) for shade in told]
        kinds = shade_kinds(dyeing, joining)
        expected = {tuple(at for at, own in enumerate(sums) if own == row) for row in sums}
        self.assertEqual(kinds, tuple(sorted(expected)))
        joined = joined_dyes(dyeing, joining)
        self.assertGreaterEqual(len(kinds), len(joining))
        self.assertEqual(len(kinds) == len(joining), is_closed(joined))
        if not is_closed(joined):
            return False
        self.assertTrue(is_plain(joined))
        rows = {sums[kind[0]]: sum(ranks(dyeing)[at] for at in kind) for kind in kinds}
        self.assertEqual(set(shades(joined)), set(rows))
        self.assertEqual(ranks(joined), tuple(rows[shade] for shade in shades(joined)))
        return True

    def test_kinds_of_the_closed_joinings(self):
        for dyeing in (samples.cube_dyeing(4), samples.hoop_dyeing(6), samples.halves_dyeing(), samples.xor_dyeing(2)):
            for joining in closed_joinings(dyeing):
                self.assertTrue(joining[0] != (0,) or self.check_kinds(dyeing, joining))

    def test_values_that_are_no_joining_with_the_part_of_0(self):
        square = samples.hoop_dyeing(4)
        for value in NO_CUTS:
            self.assertRaises(NotJoining, shade_kinds, square, value)
        for value in [(), ((),), ((False,),), ((1,),), ((0, 1),), ((0,), (1,)), [(0,)]]:
            self.assertRaises(NotJoining, shade_kinds, ((0,),), value)


if __name__ == "__main__":
    unittest.main()
