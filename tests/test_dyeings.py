"""[1], [3] and the counts and pairs of [4]."""

import unittest

from pairdyes.dyeings import check_dyeing, dye_count, dyed, dyeing_breach, pairs_of
from pairdyes.errors import NotDyeing, TooMany
from tests import samples
from tests.samples import TWO, WAY


def with_entry(table, x, y, entry):
    """The table with another entry at (x, y)."""
    rows = [list(row) for row in table]
    rows[x][y] = entry
    return tuple(tuple(row) for row in rows)


def with_row(table, at, row):
    """The table with another row at an index."""
    return table[:at] + (row,) + table[at + 1:]


class BreachTest(unittest.TestCase):
    def assert_breach(self, value, rule, place):
        self.assertEqual(dyeing_breach(value), (rule, place))
        with self.assertRaises(NotDyeing) as caught:
            check_dyeing(value)
        self.assertEqual((caught.exception.rule, caught.exception.place), (rule, place))

    def test_dyeings_are_let(self):
        let = [(), ((0,),), ((0, 1), (2, 3)), ((0, 0), (0, 0)), TWO, WAY]
        let += [samples.even_dyeing(16), samples.full_dyeing(16), samples.single_dyeing(16)]
        let += samples.some_dyeings(16)
        for value in let:
            self.assertIsNone(dyeing_breach(value))
            self.assertIs(check_dyeing(value), value)

    def test_all_tables_of_two_places_with_small_entries(self):
        let = samples.all_dyeings(2)
        self.assertEqual(len(let), 15)
        for code in range(5 ** 4):
            a, b, c, d = [code // 5 ** k % 5 - 1 for k in range(4)]
            value = ((a, b), (c, d))
            self.assertEqual(dyeing_breach(value) is None, value in let)

    def test_form(self):
        wrong = [None, True, 0, 1.5, "", "01", b"", [], [[0]], {}, {0: 0}, set(), object(), tuple, [TWO]]
        for value in wrong:
            self.assert_breach(value, "form", -1)
        self.assert_breach(samples.single_dyeing(17), "form", -1)
        self.assert_breach(samples.full_dyeing(17), "form", -1)
        self.assert_breach(((),) * 17, "form", -1)
        self.assert_breach((None,) * 1000, "form", -1)

    def test_row_at_the_first_a_middle_and_the_last_place(self):
        for n in (1, 2, 3, 16):
            dyeing = samples.even_dyeing(n)
            for at in sorted({0, n // 2, n - 1}):
                for row in [list(dyeing[at]), dyeing[at][1:], dyeing[at] + (0,), (), "0" * n, None, 0, True, {}]:
                    self.assert_breach(with_row(dyeing, at, row), "row", at)

    def test_the_first_wrong_row_counts(self):
        self.assert_breach(((0, 1, 2), [1, 0, 2], None), "row", 1)
        self.assert_breach((0,), "row", 0)
        self.assert_breach(((0, 1),), "row", 0)
        self.assert_breach(((0,), (0,)), "row", 0)

    def test_dye_at_the_first_a_middle_and_the_last_place(self):
        wrong = [-1, 999, -10 ** 30, 10 ** 30, True, False, None, "0", "", 0.0, 1.0, (), (0,), [], [0], {}, b"0"]
        for n in (1, 2, 3, 16):
            dyeing = samples.single_dyeing(n)
            for x, y in [(0, 0), (n // 2, n // 3), (n - 1, n - 1)]:
                for entry in wrong:
                    self.assert_breach(with_entry(dyeing, x, y, entry), "dye", n * x + y)

    def test_dye_above_the_number_of_dyes_met_ahead(self):
        self.assert_breach(((1,),), "dye", 0)
        self.assert_breach(((0, 2), (1, 3)), "dye", 1)
        self.assert_breach(((0, 1), (3, 2)), "dye", 2)
        self.assert_breach(((0, 1), (1, 3)), "dye", 3)
        self.assert_breach(((0, 0), (0, 2)), "dye", 3)
        self.assertIsNone(dyeing_breach(((0, 0), (0, 1))))
        full = samples.full_dyeing(16)
        self.assert_breach(with_entry(full, 15, 15, 256), "dye", 255)
        self.assert_breach(with_entry(full, 7, 9, 122), "dye", 121)

    def test_the_first_wrong_dye_counts(self):
        self.assert_breach(((0, 1, 1), (1, -1, 9), (None, 0, 0)), "dye", 4)
        self.assert_breach(((0, 5), (1, -1)), "dye", 1)

    def test_which_rule_comes_first(self):
        self.assert_breach([(1,)], "form", -1)
        self.assert_breach(([5],) * 17, "form", -1)
        self.assert_breach(((9, None), (1,)), "row", 1)
        self.assert_breach(((-1, 1, 1), (0, 0, 0), [0, 0, 0]), "row", 2)

    def test_no_other_value_is_looked_into(self):
        class Odd:
            def __eq__(self, other):
                raise AssertionError("it was compared")

            def __hash__(self):
                raise AssertionError("it was hashed")

        self.assert_breach(Odd(), "form", -1)
        self.assert_breach((Odd(),), "row", 0)
        self.assert_breach(((Odd(),),), "dye", 0)


class DyedTest(unittest.TestCase):
    def test_by_hand(self):
        self.assertEqual(dyed(()), ())
        self.assertEqual(dyed(((-7,),)), ((0,),))
        self.assertEqual(dyed(((5, 5), (5, 5))), ((0, 0), (0, 0)))
        self.assertEqual(dyed(((3, 1), (2, 3))), ((0, 1), (2, 0)))
        self.assertEqual(dyed(((-1, 0), (-2, -1))), ((0, 1), (2, 0)))
        self.assertEqual(dyed(((10 ** 50, -10 ** 50), (10 ** 50 + 1, 10 ** 50))), ((0, 1), (2, 0)))

    def test_a_dyeing_is_its_own(self):
        for dyeing in samples.some_dyeings(16) + samples.all_dyeings(2):
            self.assertEqual(dyed(dyeing), dyeing)

    def test_two_pairs_have_one_dye_exactly_if_they_have_equal_entries(self):
        for seed in range(30):
            dyeing = samples.random_dyeing(seed, seed % 17, 1 + seed % 7)
            table = tuple(tuple(10 ** 20 - 3 ** (60 - dye) for dye in row) for row in dyeing)
            self.assertEqual(dyed(table), samples.plain_dyed(table))
            self.assertIsNone(dyeing_breach(dyed(table)))

    def test_what_is_returned_are_tuples(self):
        told = dyed(((4, 4), (2, 4)))
        self.assertIs(type(told), tuple)
        self.assertEqual([type(row) for row in told], [tuple, tuple])

    def test_sixteen_rows_are_let_and_seventeen_are_too_many(self):
        self.assertEqual(dyed(tuple((9,) * 16 for _ in range(16))), samples.single_dyeing(16))
        with self.assertRaises(TooMany) as caught:
            dyed(samples.single_dyeing(17))
        self.assertEqual(caught.exception.limit, 16)


class CountsAndPairsTest(unittest.TestCase):
    def test_dye_count(self):
        self.assertEqual(dye_count(()), 0)
        self.assertEqual(dye_count(((0,),)), 1)
        self.assertEqual(dye_count(WAY), 3)
        self.assertEqual(dye_count(samples.full_dyeing(16)), 256)
        for dyeing in samples.some_dyeings():
            self.assertEqual(dye_count(dyeing), samples.plain_dye_count(dyeing))

    def test_pairs_of(self):
        self.assertEqual(pairs_of(((0,),), 0), ((0, 0),))
        self.assertEqual(pairs_of(WAY, 0), ((0, 0), (1, 1), (2, 2)))
        self.assertEqual(pairs_of(WAY, 1), ((0, 1), (1, 0), (1, 2), (2, 1)))
        self.assertEqual(pairs_of(WAY, 2), ((0, 2), (2, 0)))
        self.assertEqual(pairs_of(samples.full_dyeing(16), 255), ((15, 15),))

    def test_each_pair_is_of_just_its_dye_and_they_ascend(self):
        for dyeing in samples.some_dyeings():
            found = []
            for dye in range(dye_count(dyeing)):
                told = pairs_of(dyeing, dye)
                self.assertEqual(told, tuple(sorted(told)))
                self.assertTrue(all(dyeing[x][y] == dye for x, y in told))
                found += told
            self.assertEqual(sorted(found), samples.pairs(dyeing))


if __name__ == "__main__":
    unittest.main()
