"""[34] and [35]: wheels, character sums, dual cuts, and rational cuts."""

import cmath
import time
import unittest
from math import gcd, lcm

from pairdyes.characters import character_sum, dual_cut, rational_cut, wheel
from pairdyes.dyeings import dye_count
from pairdyes.errors import NotCut
from pairdyes.joinings import closed_joinings
from pairdyes.shades import is_plain, ranks, shades
from pairdyes.sums import additive_listings, closed_cuts, cut_dyeing, is_closed_cut, least_closed_cut, orbit_cut
from tests import samples
from tests.samples import NO_CUTS
from tests.sizes import ALL_SIZES, FEW_SIZES, all_cuts, fine_cut, plain_added, random_cut, rows_of


def units_of(e):
    """The numbers from 1 to e without a common divisor with e."""
    return [t for t in range(1, e + 1) if gcd(t, e) == 1]


def product_of(one, other):
    """The coefficients of the product of two polynomials."""
    made = [0] * (len(one) + len(other) - 1)
    for i, a in enumerate(one):
        for j, b in enumerate(other):
            made[i + j] += a * b
    return made


def turning(sizes, a, b):
    """The number a.b by the sum of the point."""
    e = lcm(*sizes)
    rows = rows_of(sizes)
    return sum(one * other * e // size for one, other, size in zip(rows[a], rows[b], sizes)) % e


def root(e, t):
    """The complex number that goes a t-th of e parts around."""
    return cmath.exp(2j * cmath.pi * t / e)


def parts_by(keys):
    """Indices with equal keys together, by looking at all of them for each."""
    return tuple(sorted({tuple(at for at, own in enumerate(keys) if own == key) for key in keys}))


def plain_dual_cut(sizes, cut):
    """`dual_cut` by sums of complex numbers, rounded."""
    e = lcm(*sizes)
    keys = []
    for a in range(len(rows_of(sizes))):
        sums = [sum(root(e, turning(sizes, a, b)) for b in part) for part in cut]
        keys.append([(round(total.real, 6) + 0.0, round(total.imag, 6) + 0.0) for total in sums])
    return parts_by(keys)


def is_finer(one, other):
    """Whether each part of one cut lies within a part of another one."""
    return all(any(set(part) <= set(wide) for wide in other) for part in one)


def some_cuts(sizes):
    """Some cuts for the sizes: all where they are few."""
    n = len(rows_of(sizes))
    if n < 6:
        return all_cuts(n)
    return [fine_cut(n), ((0,), tuple(range(1, n)))] + [random_cut(seed, n, 2 + seed) for seed in range(4)]


class WheelTest(unittest.TestCase):
    def test_by_hand(self):
        self.assertEqual(wheel(1), (-1, 1))
        self.assertEqual(wheel(2), (1, 1))
        self.assertEqual(wheel(3), (1, 1, 1))
        self.assertEqual(wheel(4), (1, 0, 1))
        self.assertEqual(wheel(6), (1, -1, 1))
        self.assertEqual(wheel(12), (1, 0, -1, 0, 1))
        self.assertEqual(wheel(30), (1, 1, 0, -1, -1, -1, 0, 1, 1))
        self.assertEqual(wheel(60), (1, 0, 1, 0, 0, 0, -1, 0, -1, 0, -1, 0, 0, 0, 1, 0, 1))

    def test_the_product_over_all_divisors(self):
        for d in range(1, 61):
            made = [1]
            for c in range(1, d + 1):
                if d % c == 0:
                    made = product_of(made, wheel(c))
            self.assertEqual(made, [-1] + [0] * (d - 1) + [1])

    def test_kinds_and_lengths(self):
        for d in range(1, 61):
            told = wheel(d)
            self.assertIs(type(told), tuple)
            self.assertTrue(all(type(entry) is int for entry in told))
            self.assertEqual(len(told), len(units_of(d)) + 1)
            self.assertEqual(told[-1], 1)


class CharacterSumTest(unittest.TestCase):
    def test_by_hand(self):
        self.assertEqual(character_sum((), (), 0), (0,))
        self.assertEqual(character_sum((), (0,), 0), (1,))
        self.assertEqual(character_sum((2,), (0, 1), 1), (0,))
        self.assertEqual(character_sum((2,), (1,), 1), (-1,))
        self.assertEqual(character_sum((3,), (1,), 1), (0, 1))
        self.assertEqual(character_sum((3,), (2,), 1), (-1, -1))
        self.assertEqual(character_sum((3,), (1, 2), 1), (-1, 0))
        self.assertEqual(character_sum((4,), (1, 2), 1), (-1, 1))
        self.assertEqual(character_sum((8,), (1, 7), 1), (0, 1, 0, -1))
        self.assertEqual(character_sum((12,), (4,), 1), (-1, 0, 1, 0))
        # The entry 1 of the size 2 counts as a half of the way around, and that of the size 8 as an eighth.
        self.assertEqual(character_sum((2, 8), (9,), 9), (0, -1, 0, 0))

    def test_against_complex_numbers(self):
        for sizes in ALL_SIZES:
            e = lcm(*sizes)
            n = len(rows_of(sizes))
            cut = random_cut(3, n, 3)
            for numbers in [(), (0,), (n - 1,), tuple(range(n))] + list(cut[1:]):
                for a in range(n):
                    told = character_sum(sizes, numbers, a)
                    self.assertIs(type(told), tuple)
                    self.assertTrue(all(type(entry) is int for entry in told))
                    self.assertEqual(len(told), len(wheel(e)) - 1)
                    for t in units_of(e):
                        value = sum(entry * root(e, t * at) for at, entry in enumerate(told))
                        expected = sum(root(e, t * turning(sizes, a, b)) for b in numbers)
                        self.assertLess(abs(value - expected), 1e-9)

    def test_all_numbers_and_none(self):
        for sizes in ALL_SIZES:
            n = len(rows_of(sizes))
            rest = (0,) * (len(wheel(lcm(*sizes))) - 2)
            for a in range(n):
                self.assertEqual(character_sum(sizes, tuple(range(n)), a), (n if a == 0 else 0,) + rest)
                self.assertEqual(character_sum(sizes, (), a), (0,) + rest)
                self.assertEqual(character_sum(sizes, (0,), a), (1,) + rest)


class DualCutTest(unittest.TestCase):
    def test_by_hand(self):
        self.assertEqual(dual_cut((), ((0,),)), ((0,),))
        self.assertEqual(dual_cut((2,), ((0,), (1,))), ((0,), (1,)))
        self.assertEqual(dual_cut((5,), ((0,), (1, 4), (2, 3))), ((0,), (1, 4), (2, 3)))
        self.assertEqual(dual_cut((4,), ((0,), (1, 2, 3))), ((0,), (1, 2, 3)))
        self.assertEqual(dual_cut((4,), ((0,), (1, 2), (3,))), ((0,), (1,), (2,), (3,)))
        self.assertEqual(dual_cut((2, 2), ((0,), (1,), (2, 3))), ((0,), (1, 3), (2,)))
        # The numbers whose rows begin with 0, and the others; for the dual cut it is the second entry that counts.
        self.assertEqual(dual_cut((2, 3), ((0,), (1, 2), (3, 4, 5))), ((0,), (1, 2, 4, 5), (3,)))

    def test_by_equal_character_sums(self):
        for sizes in ALL_SIZES:
            n = len(rows_of(sizes))
            for cut in some_cuts(sizes):
                told = dual_cut(sizes, cut)
                self.assertEqual(told, plain_dual_cut(sizes, cut))
                self.assertEqual(told, parts_by([[character_sum(sizes, part, a) for part in cut] for a in range(n)]))

    def test_as_many_parts_exactly_for_closed_cuts(self):
        for sizes in FEW_SIZES[:7] + [(2, 2), (2, 3)]:
            for cut in all_cuts(len(rows_of(sizes))):
                dual = dual_cut(sizes, cut)
                self.assertGreaterEqual(len(dual), len(cut))
                self.assertEqual(len(dual) == len(cut), is_closed_cut(sizes, cut))
                if is_closed_cut(sizes, cut):
                    self.assertIs(is_closed_cut(sizes, dual), True)
                    self.assertEqual(dual_cut(sizes, dual), cut)

    def test_closed_cuts_of_eight_and_more_numbers(self):
        for sizes in [(8,), (2, 4), (2, 2, 2)]:
            for cut in closed_cuts(sizes):
                dual = dual_cut(sizes, cut)
                self.assertEqual((len(dual), dual_cut(sizes, dual)), (len(cut), cut))
        for sizes in ALL_SIZES:
            for seed in range(3):
                cut = least_closed_cut(sizes, random_cut(seed, len(rows_of(sizes)), 3))
                self.assertEqual(len(dual_cut(sizes, cut)), len(cut))

    def test_the_dual_cut_of_the_dual_cut(self):
        for sizes in ALL_SIZES:
            for cut in some_cuts(sizes):
                last, twice = cut, dual_cut(sizes, dual_cut(sizes, cut))
                self.assertTrue(is_finer(twice, cut))
                while twice != last:
                    last, twice = twice, dual_cut(sizes, dual_cut(sizes, twice))
                self.assertEqual(last, least_closed_cut(sizes, cut))

    def test_finer_cuts_have_finer_dual_cuts(self):
        for sizes in [(5,), (2, 2), (6,), (2, 4), (16,), (4, 4)]:
            n = len(rows_of(sizes))
            coarse = random_cut(5, n, 2)
            halves = [half for part in coarse for half in (part[:1], part[1:]) if half]
            fine = tuple(sorted(halves))
            self.assertTrue(is_finer(fine, coarse))
            self.assertTrue(is_finer(dual_cut(sizes, fine), dual_cut(sizes, coarse)))
        for sizes in [(4,), (2, 2), (5,)]:
            cuts = [(cut, dual_cut(sizes, cut)) for cut in all_cuts(len(rows_of(sizes)))]
            for one, dual in cuts:
                self.assertTrue(all(is_finer(dual, far) for other, far in cuts if is_finer(one, other)))

    def test_closed_joinings_of_the_fine_cut(self):
        for sizes in [(), (2,), (3,), (4,), (2, 2), (5,), (6,), (2, 3), (7,)]:
            fine = fine_cut(len(rows_of(sizes)))
            self.assertEqual(closed_joinings(cut_dyeing(sizes, fine)), closed_cuts(sizes))

    def test_values_that_are_no_cut(self):
        for value in NO_CUTS:
            self.assertRaises(NotCut, dual_cut, (3,), value)
        for value in [(), ((),), ((1,),), ((False,),), ((0, 1),), ((0,), (1,)), [(0,)], None]:
            self.assertRaises(NotCut, dual_cut, (), value)
        self.assertRaises(NotCut, dual_cut, (4, 4), fine_cut(15))

    def test_sixteen_numbers_without_a_long_run(self):
        begun = time.perf_counter()
        for sizes in [(16,), (4, 4), (2, 2, 2, 2)]:
            self.assertEqual(dual_cut(sizes, fine_cut(16)), fine_cut(16))
        self.assertLess(time.perf_counter() - begun, 10)


class RationalCutTest(unittest.TestCase):
    def test_by_hand(self):
        self.assertEqual(rational_cut(()), ((0,),))
        self.assertEqual(rational_cut((2,)), ((0,), (1,)))
        self.assertEqual(rational_cut((5,)), ((0,), (1, 2, 3, 4)))
        self.assertEqual(rational_cut((6,)), ((0,), (1, 5), (2, 4), (3,)))
        self.assertEqual(rational_cut((2, 2)), fine_cut(4))
        self.assertEqual(rational_cut((3, 3)), ((0,), (1, 2), (3, 6), (4, 8), (5, 7)))

    def test_by_all_multiples(self):
        for sizes in ALL_SIZES:
            keys = []
            for a in range(len(rows_of(sizes))):
                multiples = [0]
                for _ in range(lcm(*sizes)):
                    multiples.append(plain_added(sizes, multiples[-1], a))
                keys.append({multiples[t] for t in units_of(lcm(*sizes))})
            self.assertEqual(rational_cut(sizes), parts_by(keys))

    def test_closed_and_its_own_dual_cut(self):
        for sizes in ALL_SIZES:
            cut = rational_cut(sizes)
            self.assertIs(is_closed_cut(sizes, cut), True)
            self.assertEqual(dual_cut(sizes, cut), cut)

    def test_for_one_size_by_all_additive_listings(self):
        for n in range(2, 9):
            self.assertEqual(orbit_cut((n,), additive_listings((n,))), rational_cut((n,)))

    def test_unions_of_its_parts(self):
        checked = 0
        for sizes in ALL_SIZES:
            n = len(rows_of(sizes))
            fine = rational_cut(sizes)
            cuts = [fine] + [cut for cut in closed_cuts(sizes) if is_finer(fine, cut)] if n <= 8 else [fine]
            if n > 8:
                parts = [tuple(fine.index(part) for part in fine if part[0] in wide) for wide in random_cut(2, n, 2)]
                joined = [tuple(sorted(number for at in part for number in fine[at])) for part in parts if part]
                cuts.append(least_closed_cut(sizes, tuple(sorted(joined))))
                cuts.append(((0,), tuple(range(1, n))))
            for cut in cuts:
                self.assertTrue(is_finer(fine, cut))
                self.check_union(sizes, cut)
                checked += 1
        self.assertGreater(checked, 100)

    def check_union(self, sizes, cut):
        """Checks what the point says of the closed cuts whose parts are made up of parts of the rational cut."""
        dyeing = cut_dyeing(sizes, cut)
        self.assertIs(is_plain(dyeing), True)
        self.assertEqual(dye_count(dyeing), len(cut))
        rows = {}
        for wide in dual_cut(sizes, cut):
            for a in wide:
                sums = [character_sum(sizes, part, a) for part in cut]
                self.assertTrue(all(entry == 0 for told in sums for entry in told[1:]))
                self.assertEqual(rows.setdefault(tuple(told[0] for told in sums), wide), wide)
        self.assertEqual(shades(dyeing), tuple(sorted(rows, reverse=True)))
        self.assertEqual(ranks(dyeing), tuple(len(rows[shade]) for shade in shades(dyeing)))


if __name__ == "__main__":
    unittest.main()
