"""[39] and [40]: weighings, their bounds, the least bound, and inner tries."""

import random
import time
import unittest
from fractions import Fraction
from itertools import combinations
from math import gcd

from pairdyes.errors import NotEven, NotPlain, NotWeighing
from pairdyes.lots import greatest_lot, inner_row, outer_row
from pairdyes.shades import ranks, second_table
from pairdyes.weighings import best_inner, best_weighing, bound_of, least_bound, weighing_breach
from tests import samples
from tests.samples import THREE, TWO

ONE = (1, 1)
ZERO = (0, 1)


def whole(*numbers):
    """Integers as ratios."""
    return tuple((number, 1) for number in numbers)


def is_ratio(value):
    """Whether a value is a ratio."""
    if type(value) is not tuple or len(value) != 2 or any(type(entry) is not int for entry in value):
        return False
    a, b = value
    return b >= 1 and gcd(a, b) == 1


def ratio_of(fraction):
    """A fraction as a ratio."""
    return (fraction.numerator, fraction.denominator)


def second_sums(dyeing, value):
    """For each dye I the sum over all j of value[j] q(I, j), as a fraction."""
    return [sum(Fraction(*w) * Fraction(*q) for w, q in zip(value, row)) for row in second_table(dyeing)]


def outer_sums(dyeing, value):
    """For each shade j the sum over all dyes I of value[I] q(I, j), as a fraction."""
    return [sum(Fraction(*a) * Fraction(*q) for a, q in zip(value, col)) for col in zip(*second_table(dyeing))]


def plain_breach(dyeing, dyes, value):
    """`weighing_breach` by the words of the point."""
    r = samples.plain_dye_count(dyeing)
    if type(value) is not tuple or len(value) != r or not all(is_ratio(entry) for entry in value):
        return -1
    for at, entry in enumerate(value):
        if Fraction(*entry) < 0 or (at == 0 and Fraction(*entry) != 1):
            return at
    sums = second_sums(dyeing, value)
    return next((r + dye for dye in dyes if sums[dye] > 0), None)


def some_dyes(dyeing):
    """Some tuples of dyes other than 0: all of them where they are few."""
    dyes = range(1, samples.plain_dye_count(dyeing))
    if len(dyes) < 5:
        return [some for many in range(len(dyes) + 1) for some in combinations(dyes, many)]
    found = [(), tuple(dyes), tuple(dyes)[::2], tuple(dyes)[1::2], (dyes[-1],)]
    for seed in range(6):
        source = random.Random(seed)
        found.append(tuple(sorted(source.sample(dyes, source.randint(1, len(dyes))))))
    return found


def digits(row):
    """The number of digits of the longest integer in a row of ratios."""
    return max(len(str(abs(entry))) for pair in row for entry in pair)


class WeighingTest(unittest.TestCase):
    def test_values_that_are_no_rows_of_ratios(self):
        wrong = samples.OTHER_VALUES + [
            (), (ONE,), (ONE, ONE), whole(1, 1, 1, 1), list(whole(1, 1, 1)), (ONE, ONE, [1, 1]), (ONE, ONE, (1,)),
            (ONE, ONE, (1, 1, 1)), (ONE, ONE, 1), (ONE, ONE, None), (ONE, ONE, "11"), (1, 1, 1), "111", ((), (), ()),
            (ONE, ONE, (2, 2)), (ONE, ONE, (6, 4)), (ONE, ONE, (0, 2)), (ONE, ONE, (0, 0)), (ONE, ONE, (1, 0)),
            (ONE, ONE, (0, -1)), (ONE, ONE, (1, -1)), (ONE, ONE, (-1, -1)), (ONE, ONE, (-2, 4)), ((2, 2), ONE, ONE),
            (ONE, ONE, (True, 1)), (ONE, ONE, (1, True)), (ONE, ONE, (False, 1)), ((True, 1), ONE, ONE),
            (ONE, ONE, (1.0, 1)), (ONE, ONE, (1, 1.0)), (ONE, ONE, (1, "1")), (ONE, ONE, (None, 1)),
            (ONE, ONE, Fraction(1)), (ONE, (-1, 1), (2, 2)), ((0, 1), (-1, 1), None), (whole(1, 1, 1),),
            {0: ONE, 1: ONE, 2: ONE}, (ONE, ONE, (10 ** 50, 10 ** 51)),
        ]
        for dyes in [(), (1,), (1, 2)]:
            for value in wrong:
                self.assertEqual(weighing_breach(samples.petersen_dyeing(), dyes, value), -1)

    def test_entries_below_0_and_the_first_entry(self):
        petersen = samples.petersen_dyeing()
        self.assertEqual(weighing_breach(petersen, (), whole(0, 0, 0)), 0)
        self.assertEqual(weighing_breach(petersen, (), whole(2, 0, 0)), 0)
        self.assertEqual(weighing_breach(petersen, (), ((1, 2), ZERO, ZERO)), 0)
        self.assertEqual(weighing_breach(petersen, (), whole(-1, -1, -1)), 0)
        self.assertEqual(weighing_breach(petersen, (), whole(2, -1, 0)), 0)
        self.assertEqual(weighing_breach(petersen, (), whole(1, -1, -1)), 1)
        self.assertEqual(weighing_breach(petersen, (1, 2), (ONE, ZERO, (-1, 10 ** 60))), 2)
        self.assertEqual(weighing_breach(((0,),), (), whole(2)), 0)
        self.assertIsNone(weighing_breach(((0,),), (), whole(1)))

    def test_dyes_with_a_sum_above_0(self):
        petersen = samples.petersen_dyeing()
        # The rows of the dyes 1 and 2 in the second table are 1, 2/3, -5/3 and 1, -8/3, 5/3.
        self.assertIsNone(weighing_breach(petersen, (), whole(1, 0, 0)))
        self.assertEqual(weighing_breach(petersen, (1, 2), whole(1, 0, 0)), 4)
        self.assertEqual(weighing_breach(petersen, (2,), whole(1, 0, 0)), 5)
        self.assertEqual(weighing_breach(petersen, (1, 2), whole(1, 0, 1)), 5)
        self.assertIsNone(weighing_breach(petersen, (1,), whole(1, 0, 1)))
        self.assertIsNone(weighing_breach(petersen, (1,), (ONE, ZERO, (3, 5))))
        self.assertEqual(weighing_breach(petersen, (1,), (ONE, ZERO, (5, 9))), 4)
        self.assertIsNone(weighing_breach(petersen, (2,), (ONE, (3, 8), ZERO)))
        self.assertEqual(weighing_breach(petersen, (2,), (ONE, (37, 100), ZERO)), 5)
        self.assertIsNone(weighing_breach(petersen, (1, 2), whole(1, 1, 1)))

    def test_weighing_breach_by_the_words_of_the_point(self):
        met = set()
        for dyeing in samples.plain_dyeings():
            r = samples.plain_dye_count(dyeing)
            for at, dyes in enumerate(some_dyes(dyeing)):
                source = random.Random(at)
                for bottom in (-1, 0, 0, 0):
                    rest = [ratio_of(Fraction(source.randint(bottom, 9), source.randint(1, 9))) for _ in range(r - 1)]
                    value = (ONE,) + tuple(rest)
                    told = weighing_breach(dyeing, dyes, value)
                    self.assertEqual(told, plain_breach(dyeing, dyes, value))
                    met.add("none" if told is None else "entry" if told < r else "dye")
        self.assertEqual(met, {"none", "entry", "dye"})

    def test_all_ones_are_a_weighing(self):
        for dyeing in samples.plain_dyeings():
            ones = whole(*[1] * samples.plain_dye_count(dyeing))
            for dyes in some_dyes(dyeing):
                self.assertIsNone(weighing_breach(dyeing, dyes, ones))
                self.assertEqual(bound_of(dyeing, dyes, ones), (len(dyeing), 1))

    def test_bound_of(self):
        petersen = samples.petersen_dyeing()
        self.assertEqual(bound_of(petersen, (), whole(1, 0, 0)), (1, 1))
        self.assertEqual(bound_of(petersen, (1,), (ONE, ZERO, (3, 5))), (4, 1))
        self.assertEqual(bound_of(petersen, (2,), (ONE, (3, 8), ZERO)), (5, 2))
        self.assertEqual(bound_of(petersen, (), (ONE, (1, 3), (1, 7))), (64, 21))
        self.assertEqual(bound_of(((0,),), (), whole(1)), (1, 1))
        for dyeing in samples.plain_dyeings():
            source = random.Random(len(dyeing))
            value = (ONE,) + tuple(ratio_of(Fraction(source.randint(0, 9), source.randint(1, 9))) for _ in ranks(dyeing)[1:])
            expected = sum(Fraction(*w) * rank for w, rank in zip(value, ranks(dyeing)))
            self.assertEqual(bound_of(dyeing, (), value), ratio_of(expected))

    def test_no_weighing_with_just_its_place(self):
        petersen = samples.petersen_dyeing()
        wrong = [
            (None, -1), ([ONE, ONE, ONE], -1), ((ONE, ONE), -1), (whole(1, 1) + ((True, 1),), -1), (whole(2, 0, 0), 0),
            (whole(1, 0, -1), 2), (whole(1, 0, 0), 4), (whole(1, 0, 1), 5),
        ]
        for value, place in wrong:
            with self.assertRaises(NotWeighing) as caught:
                bound_of(petersen, (1, 2), value)
            self.assertEqual(caught.exception.place, place)
            self.assertEqual(vars(caught.exception), {"place": place})
            self.assertEqual(weighing_breach(petersen, (1, 2), value), place)

    def test_no_kept_lot_has_more_places(self):
        for dyeing in samples.plain_dyeings():
            for dyes in some_dyes(dyeing):
                lot = greatest_lot(dyeing, dyes)
                told = best_weighing(dyeing, dyes)
                self.assertLessEqual(len(lot), Fraction(*bound_of(dyeing, dyes, told)))
                if len(lot) == Fraction(*bound_of(dyeing, dyes, told)):
                    self.assertTrue(all(w[0] * entry[0] == 0 for w, entry in list(zip(told, outer_row(dyeing, lot)))[1:]))
                    sums = second_sums(dyeing, told)
                    inner = inner_row(dyeing, lot)
                    self.assertTrue(all(sums[dye] == 0 for dye in dyes if inner[dye] != ZERO))

    def test_the_weighing_that_comes_of_a_lot(self):
        for dyeing in samples.plain_dyeings():
            n = len(dyeing)
            for seed in range(3):
                source = random.Random(seed)
                lot = tuple(sorted(source.sample(range(n), source.randint(1, n))))
                told = zip(outer_row(dyeing, lot), ranks(dyeing))
                value = tuple(ratio_of(Fraction(*entry) / (len(lot) * rank)) for entry, rank in told)
                dyes = tuple(dye for dye, entry in enumerate(inner_row(dyeing, lot)) if dye > 0 and entry == ZERO)
                self.assertIsNone(weighing_breach(dyeing, dyes, value))
                self.assertEqual(bound_of(dyeing, dyes, value), ratio_of(Fraction(n, len(lot))))


class LeastBoundTest(unittest.TestCase):
    def check_from_both_sides(self, dyeing, dyes):
        """Checks that a weighing and an inner try meet at the least bound, so that neither can be better."""
        bound = least_bound(dyeing, dyes)
        self.assertTrue(is_ratio(bound))
        weighing = best_weighing(dyeing, dyes)
        self.assertIsNone(plain_breach(dyeing, dyes, weighing))
        self.assertEqual(sum(Fraction(*w) * rank for w, rank in zip(weighing, ranks(dyeing))), Fraction(*bound))
        inner = best_inner(dyeing, dyes)
        r = samples.plain_dye_count(dyeing)
        self.assertEqual((type(inner), len(inner)), (tuple, r))
        self.assertTrue(all(is_ratio(entry) and entry[0] >= 0 for entry in inner))
        self.assertEqual(inner[0], ONE)
        self.assertTrue(all(inner[dye] == ZERO for dye in range(1, r) if dye not in dyes))
        self.assertTrue(all(total >= 0 for total in outer_sums(dyeing, inner)))
        self.assertEqual(sum(Fraction(*entry) for entry in inner), Fraction(*bound))
        self.assertLessEqual(max(digits(weighing), digits(inner), digits([bound])), 100)
        return bound

    def test_by_hand(self):
        self.assertEqual(least_bound(((0,),), ()), (1, 1))
        self.assertEqual(best_weighing(((0,),), ()), (ONE,))
        self.assertEqual(best_inner(((0,),), ()), (ONE,))
        self.assertEqual(least_bound(TWO, ()), (1, 1))
        self.assertEqual(least_bound(TWO, (1,)), (2, 1))
        self.assertEqual(best_weighing(TWO, (1,)), whole(1, 1))
        self.assertEqual(best_inner(TWO, (1,)), whole(1, 1))
        self.assertEqual(best_inner(THREE, (1,)), whole(1, 2))
        self.assertEqual(least_bound(samples.petersen_dyeing(), (1,)), (4, 1))
        self.assertEqual(least_bound(samples.petersen_dyeing(), (2,)), (5, 2))
        self.assertEqual(least_bound(samples.hoop_dyeing(4), (2,)), (2, 1))
        self.assertEqual(least_bound(samples.shrikhande_dyeing(), (1,)), (4, 1))
        self.assertEqual(least_bound(samples.cube_dyeing(4), (3, 4)), (8, 3))
        self.assertEqual(least_bound(samples.cube_dyeing(4), (2, 3, 4)), (8, 1))

    def test_no_dyes_and_all_dyes(self):
        for dyeing in samples.plain_dyeings():
            self.assertEqual(self.check_from_both_sides(dyeing, ()), (1, 1))
            dyes = tuple(range(1, samples.plain_dye_count(dyeing)))
            self.assertEqual(self.check_from_both_sides(dyeing, dyes), (len(dyeing), 1))

    def test_from_both_sides(self):
        for dyeing in samples.plain_dyeings():
            for dyes in some_dyes(dyeing):
                self.check_from_both_sides(dyeing, dyes)

    def test_sixteen_places_and_many_dyes_without_a_long_run(self):
        begun = time.perf_counter()
        xor = samples.xor_dyeing(4)
        dyes = tuple(range(1, 16))
        for seed in range(80):
            source = random.Random(seed)
            self.check_from_both_sides(xor, tuple(sorted(source.sample(dyes, source.randint(2, 14)))))
        halves = samples.halves_dyeing()
        for some in some_dyes(halves):
            self.check_from_both_sides(halves, some)
        self.assertLess(time.perf_counter() - begun, 60)

    def test_inner_rows_of_kept_lots_are_inner_tries(self):
        for dyeing in samples.plain_dyeings():
            for dyes in some_dyes(dyeing)[:6]:
                row = inner_row(dyeing, greatest_lot(dyeing, dyes))
                self.assertTrue(all(total >= 0 for total in outer_sums(dyeing, row)))
                self.assertLessEqual(sum(Fraction(*entry) for entry in row), Fraction(*least_bound(dyeing, dyes)))

    def test_not_even_and_then_not_plain(self):
        calls = [(least_bound, ()), (best_weighing, ()), (best_inner, ())]
        calls += [(function, (value,)) for function in (weighing_breach, bound_of) for value in (None, (ONE,), whole(1, 1))]
        for function, rest in calls:
            for dyes in ((), (1,), (99,), None):
                for dyeing in samples.not_even():
                    self.assertRaises(NotEven, function, dyeing, dyes, *rest)
                for dyeing in samples.even_not_plain():
                    self.assertRaises(NotPlain, function, dyeing, dyes, *rest)


if __name__ == "__main__":
    unittest.main()
