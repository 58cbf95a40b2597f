"""[33] and [36]: sums of rows of remainders, cuts, closed cuts, and additive listings."""

import time
import unittest
from itertools import permutations, product

from pairdyes.closings import closing, is_closed
from pairdyes.dyeings import dyeing_breach
from pairdyes.errors import NotAdditive, NotCut, TooMany
from pairdyes.sums import (
    added, additive_listings, closed_cuts, cut_dyeing, is_closed_cut, least_closed_cut, orbit_cut, row_of, taken,
)
from tests import samples
from tests.samples import NO_CUTS
from tests.sizes import ALL_SIZES, FEW_SIZES, all_cuts, fine_cut, plain_added, plain_negative, random_cut, rows_of

CUT_FUNCTIONS = [cut_dyeing, is_closed_cut, least_closed_cut]


def plain_is_closed_cut(sizes, cut):
    """Whether a cut is closed, by both conditions of the point."""
    parts = {frozenset(part) for part in cut}
    if not all(frozenset(plain_negative(sizes, a) for a in part) in parts for part in cut):
        return False
    for one in cut:
        for other in cut:
            sums = [plain_added(sizes, a, b) for a in one for b in other]
            if any(len({sums.count(number) for number in part}) > 1 for part in cut):
                return False
    return True


def is_additive(sizes, listing):
    """Whether a listing takes sums to sums."""
    numbers = range(len(listing))
    return all(
        listing[plain_added(sizes, a, b)] == plain_added(sizes, listing[a], listing[b]) for a in numbers for b in numbers
    )


class SumsTest(unittest.TestCase):
    def test_by_hand(self):
        self.assertEqual(row_of((), 0), ())
        self.assertEqual(row_of((5,), 3), (3,))
        self.assertEqual(row_of((2, 8), 11), (1, 3))
        self.assertEqual(row_of((2, 3, 2), 7), (1, 0, 1))
        self.assertEqual(added((), 0, 0), 0)
        self.assertEqual(added((5,), 3, 4), 2)
        self.assertEqual(added((2, 8), 11, 13), 0)
        self.assertEqual(added((2, 3, 2), 7, 11), 4)
        self.assertEqual(taken((), 0, 0), 0)
        self.assertEqual(taken((5,), 3, 4), 4)
        self.assertEqual(taken((2, 8), 3, 13), 14)
        self.assertEqual(taken((2, 3, 2), 0, 11), 9)

    def test_rows_sums_and_differences(self):
        for sizes in ALL_SIZES:
            rows = rows_of(sizes)
            for a, row in enumerate(rows):
                self.assertEqual(row_of(sizes, a), row)
                for b in range(len(rows)):
                    total = added(sizes, a, b)
                    self.assertEqual(total, plain_added(sizes, a, b))
                    self.assertEqual(taken(sizes, total, b), a)
                    self.assertEqual(taken(sizes, a, b), plain_added(sizes, a, plain_negative(sizes, b)))


class CutTest(unittest.TestCase):
    def test_cut_dyeing_by_hand(self):
        self.assertEqual(cut_dyeing((), ((0,),)), ((0,),))
        self.assertEqual(cut_dyeing((2,), ((0,), (1,))), ((0, 1), (1, 0)))
        self.assertEqual(cut_dyeing((3,), ((0,), (1,), (2,))), ((0, 1, 2), (2, 0, 1), (1, 2, 0)))
        self.assertEqual(cut_dyeing((6,), ((0,), (1, 5), (2, 4), (3,))), samples.hoop_dyeing(6))
        self.assertEqual(cut_dyeing((2, 2), ((0,), (1, 2), (3,))), samples.cube_dyeing(2))
        self.assertEqual(cut_dyeing((2, 2, 2, 2), fine_cut(16)), samples.xor_dyeing(4))

    def test_cut_dyeing_by_all_pairs(self):
        for sizes in ALL_SIZES:
            n = len(rows_of(sizes))
            for cut in (fine_cut(n), random_cut(1, n, 2), random_cut(2, n, 4)):
                dyeing = cut_dyeing(sizes, cut)
                self.assertIsNone(dyeing_breach(dyeing))
                self.assertEqual(len(dyeing), n)
                for x, y in samples.pairs(dyeing):
                    difference = plain_added(sizes, y, plain_negative(sizes, x))
                    self.assertIn(difference, cut[dyeing[x][y]])

    def test_values_that_are_no_cut(self):
        for function in CUT_FUNCTIONS:
            for value in NO_CUTS:
                self.assertRaises(NotCut, function, (3,), value)
            for value in [(), ((),), ((1,),), ((False,),), ((0, 0),), ((0, 1),), ((0,), (1,)), [(0,)], None]:
                self.assertRaises(NotCut, function, (), value)
            four = (fine_cut(4) + ((4,),), fine_cut(3), ((0, 1), (2, 3)), ((0,), (1, 2, 3, 4)), ((0,), (2, 3), (1,)))
            for value in four:
                self.assertRaises(NotCut, function, (2, 2), value)
            self.assertRaises(NotCut, function, (4, 4), fine_cut(15))
            self.assertRaises(NotCut, function, (4, 4), fine_cut(17))

    def test_is_closed_cut_by_both_conditions(self):
        for sizes in [(), (2,), (3,), (4,), (2, 2), (5,), (6,), (2, 3), (7,)]:
            for cut in all_cuts(len(rows_of(sizes))):
                told = is_closed_cut(sizes, cut)
                self.assertIs(told, plain_is_closed_cut(sizes, cut))
                self.assertIs(told, is_closed(cut_dyeing(sizes, cut)))

    def test_is_closed_cut_of_sixteen_numbers(self):
        for sizes in [(16,), (4, 4), (2, 2, 4), (2, 2, 2, 2)]:
            self.assertIs(is_closed_cut(sizes, fine_cut(16)), True)
            self.assertIs(is_closed_cut(sizes, ((0,), tuple(range(1, 16)))), True)
            for seed in range(4):
                cut = random_cut(seed, 16, 5)
                self.assertIs(is_closed_cut(sizes, cut), plain_is_closed_cut(sizes, cut))

    def test_closed_cuts_by_hand(self):
        self.assertEqual(closed_cuts(()), (((0,),),))
        self.assertEqual(closed_cuts((2,)), (((0,), (1,)),))
        self.assertEqual(closed_cuts((3,)), (((0,), (1,), (2,)), ((0,), (1, 2))))
        self.assertEqual(
            closed_cuts((4,)), (((0,), (1,), (2,), (3,)), ((0,), (1, 2, 3)), ((0,), (1, 3), (2,)))
        )
        self.assertEqual(len(closed_cuts((2, 2))), 5)

    def test_closed_cuts_against_all_cuts(self):
        for sizes in [(2,), (4,), (2, 2), (5,), (6,), (3, 2), (7,)]:
            expected = [cut for cut in all_cuts(len(rows_of(sizes))) if plain_is_closed_cut(sizes, cut)]
            self.assertEqual(closed_cuts(sizes), tuple(sorted(expected)))

    def test_closed_cuts_of_eight_numbers_without_a_long_run(self):
        begun = time.perf_counter()
        told = {sizes: closed_cuts(sizes) for sizes in [(8,), (2, 4), (4, 2), (2, 2, 2)]}
        self.assertLess(time.perf_counter() - begun, 30)
        for sizes, cuts in told.items():
            self.assertEqual(list(cuts), sorted(set(cuts)))
            self.assertTrue(all(plain_is_closed_cut(sizes, cut) for cut in cuts))
        self.assertEqual([len(cuts) for cuts in told.values()], [10, 28, 28, 100])

    def test_too_many_numbers(self):
        for function in (closed_cuts, additive_listings):
            for sizes in [(9,), (3, 3), (2, 5), (16,), (2, 2, 2, 2), (4, 4)]:
                with self.assertRaises(TooMany) as caught:
                    function(sizes)
                self.assertEqual(caught.exception.limit, 8)

    def test_least_closed_cut(self):
        self.assertEqual(least_closed_cut((), ((0,),)), ((0,),))
        self.assertEqual(least_closed_cut((4,), ((0,), (1,), (2, 3))), ((0,), (1,), (2,), (3,)))
        self.assertEqual(least_closed_cut((6,), ((0,), (1, 5), (2, 3, 4))), ((0,), (1, 5), (2, 4), (3,)))
        for sizes in ALL_SIZES:
            n = len(rows_of(sizes))
            for cut in [fine_cut(n)] + [random_cut(seed, n, 2 + seed) for seed in range(4)]:
                told = least_closed_cut(sizes, cut)
                self.assertEqual(cut_dyeing(sizes, told), closing(cut_dyeing(sizes, cut)))
                self.assertIs(is_closed_cut(sizes, told), True)
                self.assertTrue(all(any(set(part) <= set(other) for other in cut) for part in told))
                self.assertEqual(told == cut, is_closed_cut(sizes, cut))


class AdditiveTest(unittest.TestCase):
    def test_additive_listings_by_hand(self):
        self.assertEqual(additive_listings(()), ((0,),))
        self.assertEqual(additive_listings((2,)), ((0, 1),))
        self.assertEqual(additive_listings((3,)), ((0, 1, 2), (0, 2, 1)))
        self.assertEqual(additive_listings((4,)), ((0, 1, 2, 3), (0, 3, 2, 1)))
        self.assertEqual(additive_listings((2, 2)), tuple((0,) + rest for rest in permutations((1, 2, 3))))

    def test_additive_listings_against_all_listings(self):
        for sizes in [(), (2,), (3,), (4,), (2, 2), (5,), (6,), (2, 3), (3, 2), (7,)]:
            n = len(rows_of(sizes))
            expected = tuple(listing for listing in permutations(range(n)) if is_additive(sizes, listing))
            self.assertEqual(additive_listings(sizes), expected)

    def test_additive_listings_of_eight_numbers(self):
        for sizes, many in [((8,), 4), ((2, 4), 8), ((4, 2), 8), ((2, 2, 2), 168)]:
            told = additive_listings(sizes)
            self.assertEqual(len(told), many)
            self.assertEqual(list(told), sorted(set(told)))
            self.assertTrue(all(sorted(listing) == list(range(8)) and is_additive(sizes, listing) for listing in told))

    def test_orbit_cut_by_hand(self):
        self.assertEqual(orbit_cut((), ()), ((0,),))
        self.assertEqual(orbit_cut((), ((0,), (0,))), ((0,),))
        self.assertEqual(orbit_cut((5,), ()), ((0,), (1,), (2,), (3,), (4,)))
        self.assertEqual(orbit_cut((5,), ((0, 4, 3, 2, 1),)), ((0,), (1, 4), (2, 3)))
        self.assertEqual(orbit_cut((5,), ((0, 2, 4, 1, 3),)), ((0,), (1, 2, 3, 4)))
        sixteen = tuple(3 * number % 16 for number in range(16))
        self.assertEqual(
            orbit_cut((16,), (sixteen,)), ((0,), (1, 3, 9, 11), (2, 6), (4, 12), (5, 7, 13, 15), (8,), (10, 14))
        )

    def test_orbit_cut_by_walking(self):
        for sizes in FEW_SIZES:
            n = len(rows_of(sizes))
            told = additive_listings(sizes)
            for listings in [(), told[:1], told[-1:], told[1:3], told[1:2] * 2, told[::-1], told]:
                cut = orbit_cut(sizes, listings)
                self.assertEqual(cut, samples.plain_groups(n, listings))
                self.assertIs(is_closed_cut(sizes, cut), True)

    def test_values_that_are_no_additive_listings(self):
        fit = (0, 2, 4, 1, 3)
        self.assertEqual(orbit_cut((5,), (fit, fit)), ((0,), (1, 2, 3, 4)))
        wrong = samples.OTHER_VALUES + [
            [fit], fit, (list(fit),), (fit, None), (fit, ()), ((),), (fit, (0, 2, 1, 3, 4)), ((1, 2, 3, 4, 0),),
            ((0, 2, 4, 1),), ((0, 2, 4, 1, 3, 5),), ((0, 0, 0, 0, 0),), ((0, 1, 2, 3, 5),), ((0, True, 2, 3, 4),),
            ((False, 1, 2, 3, 4),), ((0, 1.0, 2, 3, 4),), ((0, 1, 2, 3, "4"),), ((0, 1, 2, 3, None),), ((-5, 1, 2, 3, 4),),
            ((0, 4, 3, 2, 1), (0, 4, 3, 1, 2)), "01234", ("01234",), (0, 1, 2, 3, 4), ((fit,),), {fit: fit},
        ]
        for value in wrong:
            self.assertRaises(NotAdditive, orbit_cut, (5,), value)
        # A listing of the one group that is not additive in the other.
        self.assertEqual(orbit_cut((2, 2), ((0, 2, 3, 1),)), ((0,), (1, 2, 3)))
        self.assertRaises(NotAdditive, orbit_cut, (4,), ((0, 2, 3, 1),))
        for value in [((),), ((1,),), ((0, 1),), ((False,),), [(0,)], (0,)]:
            self.assertRaises(NotAdditive, orbit_cut, (), value)

    def test_sixteen_numbers(self):
        rows = list(product(range(2), repeat=4))
        around = tuple(rows.index(row[1:] + row[:1]) for row in rows)
        cut = orbit_cut((2, 2, 2, 2), (around,))
        self.assertEqual(cut, samples.plain_groups(16, [around]))
        self.assertIs(is_closed_cut((2, 2, 2, 2), cut), True)


if __name__ == "__main__":
    unittest.main()
