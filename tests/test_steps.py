"""[11] and, of [12], its facts and `is_telling`."""

import random
import unittest

from pairdyes.closings import closing
from pairdyes.errors import NotSteps, TooGreat
from pairdyes.steps import is_telling, steps_breach, told_tables
from tests import samples
from tests.samples import TWO, WAY, pairs

LIMIT = 1000000000000
OPEN = ((0, 1, 2), (3, 0, 1), (1, 2, 0))
ONES = ("dye", 0)
# For a dyeing of ten places and one dye: 1, 10, 100, 1000, 10 ** 6 and 10 ** 12 everywhere.
GROWING = (ONES, ("then", 0, 0), ("times", 1, 1), ("times", 1, 2), ("times", 3, 3), ("times", 4, 4))


def plain_table(dyeing, step, tables):
    """The table of a step, entry by entry."""
    n = len(dyeing)
    word, *parts = step

    def entry(x, y):
        if word == "dye":
            return 1 if dyeing[x][y] == parts[0] else 0
        if word == "middle":
            return 1 if x == y else 0
        one = tables[parts[0]]
        if word == "turned":
            return one[y][x]
        if word == "just":
            return 1 if one[x][y] == parts[1] else 0
        other = tables[parts[1]]
        if word == "times":
            return one[x][y] * other[x][y]
        return sum(one[x][z] * other[z][y] for z in range(n))

    return tuple(tuple(entry(x, y) for y in range(n)) for x in range(n))


def plain_tables(dyeing, steps):
    """`told_tables` step by step, or None as soon as an entry is too great."""
    tables = []
    for step in steps:
        tables.append(plain_table(dyeing, step, tables))
        if max(entry for row in tables[-1] for entry in row) > LIMIT:
            return None
    return tuple(tables)


def random_steps(seed, dyes, many):
    """A row of so many steps; the same one for each seed."""
    source = random.Random(seed)
    steps = [("dye", source.randrange(dyes)), ("middle",)]
    while len(steps) < many:
        a, b = [source.randrange(max(0, len(steps) - 3), len(steps)) for _ in range(2)]
        steps.append(source.choice([
            ("dye", source.randrange(dyes)), ("turned", a), ("times", a, b),
            ("then", a, b), ("then", a, b), ("then", a, a), ("just", a, source.randrange(4)),
        ]))
    return tuple(steps)


class BreachTest(unittest.TestCase):
    def assert_breach(self, dyeing, value, place):
        self.assertEqual(steps_breach(dyeing, value), place, value)
        with self.assertRaises(NotSteps) as caught:
            told_tables(dyeing, value)
        self.assertEqual(caught.exception.place, place)
        if dyeing:
            self.assertIs(is_telling(dyeing, value, (0, 0), (0, len(dyeing) - 1)), False)

    def test_rows_of_steps(self):
        let = [
            (),
            (("dye", 0),),
            (("dye", 2), ("middle",), ("turned", 0), ("times", 0, 2), ("then", 3, 1), ("just", 4, 7)),
            (("middle",),) * 1000,
            (("middle",),) + tuple(("turned", at) for at in range(999)),
            (("middle",), ("just", 0, -1), ("just", 0, 10 ** 100), ("just", 0, -10 ** 100), ("times", 3, 3)),
        ]
        for value in let:
            self.assertIsNone(steps_breach(WAY, value))
        self.assertIsNone(steps_breach((), ()))
        self.assertIsNone(steps_breach((), (("middle",),)))

    def test_no_tuple_and_too_many_entries(self):
        for value in [None, True, 0, 1.5, "", "dye", b"", [], [("middle",)], {}, {0: ("middle",)}, set(), object()]:
            self.assert_breach(WAY, value, -1)
            self.assert_breach((), value, -1)
        self.assert_breach(WAY, (("middle",),) * 1001, -1)
        self.assert_breach(WAY, (None,) * 1001, -1)

    def test_entries_that_are_no_step(self):
        wrong = [
            (), ("",), ("other",), ("Middle",), ("dye",), ("turned",), ("times",), ("then",), ("just",),
            ("other", 0), ("other", 0, 0), ("middle", 0), ("middle", ()), ("dye", 0, 0), ("turned", 0, 0),
            ("times", 0), ("then", 0), ("just", 0), ("times", 0, 0, 0), ("then", 0, 0, 0), ("just", 0, 0, 0),
            ("dye", 3), ("dye", -1), ("dye", 10 ** 30), ("turned", -1), ("just", -1, 0),
            ("times", -1, 0), ("times", 0, -1), ("then", -1, 0), ("then", 0, -1),
            (0,), (None,), (True,), (1, 0), (b"middle",), (("middle",),), ([],), ({},), ("dye", ("dye", 0)),
            None, True, 0, 1.0, "middle", "dye", b"middle", ["middle"], ["dye", 0], {"middle": 0}, {"dye"}, object(),
        ]
        for entry in wrong:
            self.assert_breach(WAY, (("middle",), entry), 1)
            self.assert_breach(WAY, (("middle",), ("dye", 1), ("turned", 0), entry, ("middle",)), 3)

    def test_values_that_are_no_index_and_no_integer(self):
        wrong = [None, True, False, 0.0, 1.0, "0", "", b"0", (), (0,), [], [0], {}, {0: 0}, set(), object()]
        for part in wrong:
            steps = [
                ("dye", part), ("turned", part), ("times", part, 0), ("times", 0, part), ("then", part, 0),
                ("then", 0, part), ("just", part, 0), ("just", 0, part), (part,), (part, 0), (part, 0, 0),
            ]
            for step in steps:
                self.assert_breach(WAY, (("middle",), ("middle",), step), 2)

    def test_its_own_index_and_later_ones(self):
        for at in (0, 1, 5):
            ahead = (("middle",),) * at
            for k in (at, at + 1, at + 2, 999, 1000, 10 ** 20):
                for step in [("turned", k), ("times", k, k), ("then", k, k), ("just", k, 0)]:
                    self.assert_breach(WAY, ahead + (step,) + (("middle",),) * 3, at)
        self.assert_breach(WAY, (("middle",), ("times", 0, 1)), 1)
        self.assert_breach(WAY, (("middle",), ("times", 1, 0)), 1)
        self.assert_breach(WAY, (("middle",), ("then", 0, 1)), 1)
        self.assert_breach(WAY, (("middle",), ("then", 1, 0)), 1)
        self.assert_breach(WAY, (("just", 0, 0),), 0)

    def test_the_first_entry_that_is_no_step_counts(self):
        self.assert_breach(WAY, (None,), 0)
        self.assert_breach(WAY, (("middle",), None, []), 1)
        self.assert_breach(WAY, (("middle",),) * 999 + ([],), 999)
        self.assert_breach((), (("dye", 0),), 0)
        self.assert_breach((), (("middle",), ("dye", 0)), 1)

    def test_dyes_that_the_dyeing_has(self):
        self.assertIsNone(steps_breach(samples.full_dyeing(16), (("dye", 255),)))
        self.assert_breach(samples.full_dyeing(16), (("dye", 256),), 0)
        self.assert_breach(TWO, (("dye", 1), ("dye", 2)), 1)


class TablesTest(unittest.TestCase):
    def test_each_step_by_hand(self):
        steps = (
            ("dye", 1), ("middle",), ("turned", 0), ("then", 0, 2), ("then", 2, 0), ("just", 3, 1),
            ("times", 3, 3), ("times", 0, 2), ("then", 0, 0), ("just", 0, 0), ("just", 0, 5), ("just", 0, -1),
        )
        self.assertEqual(told_tables(OPEN, steps), (
            ((0, 1, 0), (0, 0, 1), (1, 0, 0)),
            ((1, 0, 0), (0, 1, 0), (0, 0, 1)),
            ((0, 0, 1), (1, 0, 0), (0, 1, 0)),
            ((1, 0, 0), (0, 1, 0), (0, 0, 1)),
            ((1, 0, 0), (0, 1, 0), (0, 0, 1)),
            ((1, 0, 0), (0, 1, 0), (0, 0, 1)),
            ((1, 0, 0), (0, 1, 0), (0, 0, 1)),
            ((0, 0, 0), (0, 0, 0), (0, 0, 0)),
            ((0, 0, 1), (1, 0, 0), (0, 1, 0)),
            ((1, 0, 1), (1, 1, 0), (0, 1, 1)),
            ((0, 0, 0), (0, 0, 0), (0, 0, 0)),
            ((0, 0, 0), (0, 0, 0), (0, 0, 0)),
        ))

    def test_greater_entries_by_hand(self):
        steps = (("dye", 1), ("then", 0, 0), ("then", 1, 0), ("times", 2, 1), ("times", 2, 2), ("just", 4, 4))
        self.assertEqual(told_tables(WAY, steps), (
            ((0, 1, 0), (1, 0, 1), (0, 1, 0)),
            ((1, 0, 1), (0, 2, 0), (1, 0, 1)),
            ((0, 2, 0), (2, 0, 2), (0, 2, 0)),
            ((0, 0, 0), (0, 0, 0), (0, 0, 0)),
            ((0, 4, 0), (4, 0, 4), (0, 4, 0)),
            ((0, 1, 0), (1, 0, 1), (0, 1, 0)),
        ))

    def test_then_is_not_taken_the_other_way_round(self):
        steps = (("dye", 0), ("dye", 1), ("then", 0, 1), ("then", 1, 0))
        self.assertEqual(told_tables(((0, 0), (1, 2)), steps)[2:], (((1, 0), (0, 0)), ((0, 0), (1, 1))))

    def test_the_empty_row_and_few_places(self):
        self.assertEqual(told_tables(WAY, ()), ())
        self.assertEqual(told_tables((), ()), ())
        self.assertEqual(told_tables((), (("middle",), ("turned", 0), ("then", 0, 1), ("just", 2, 0))), ((),) * 4)
        self.assertEqual(told_tables(((0,),), (("dye", 0), ("times", 0, 0), ("just", 1, 0))), (((1,),), ((1,),), ((0,),)))

    def test_random_rows_by_counting(self):
        great = 0
        for seed in range(150):
            dyeing = samples.random_dyeing(seed, 1 + seed % 6, 1 + seed % 4)
            steps = random_steps(seed, samples.plain_dye_count(dyeing), 24)
            expected = plain_tables(dyeing, steps)
            if expected is None:
                great += 1
                self.assertRaises(TooGreat, told_tables, dyeing, steps)
            else:
                self.assertEqual(told_tables(dyeing, steps), expected)
        self.assertTrue(0 < great < 75)

    def test_what_is_returned_are_tuples(self):
        tables = told_tables(WAY, (("dye", 1), ("middle",), ("turned", 0), ("times", 0, 1), ("then", 0, 1), ("just", 0, 0)))
        self.assertIs(type(tables), tuple)
        for table in tables:
            self.assertIs(type(table), tuple)
            self.assertTrue(all(type(row) is tuple for row in table))
            self.assertTrue(all(type(entry) is int for row in table for entry in row))

    def test_a_thousand_steps(self):
        steps = (("dye", 1),) + tuple(("turned", at) for at in range(999))
        tables = told_tables(OPEN, steps)
        self.assertEqual(len(tables), 1000)
        self.assertEqual(tables[999], ((0, 0, 1), (1, 0, 0), (0, 1, 0)))


class TooGreatTest(unittest.TestCase):
    def assert_great(self, dyeing, steps):
        with self.assertRaises(TooGreat) as caught:
            told_tables(dyeing, steps)
        self.assertEqual(caught.exception.limit, LIMIT)
        self.assertIs(is_telling(dyeing, steps, (0, 0), (0, 1)), False)

    def test_just_the_limit_is_let(self):
        ten = samples.single_dyeing(10)
        tables = told_tables(ten, GROWING)
        self.assertEqual([table[0][0] for table in tables], [1, 10, 100, 1000, 10 ** 6, LIMIT])
        self.assertEqual(tables[5], ((LIMIT,) * 10,) * 10)
        self.assertEqual(told_tables(ten, GROWING + (("turned", 5), ("times", 5, 0), ("just", 5, LIMIT)))[8], tables[0])

    def test_above_the_limit_in_all_entries(self):
        ten = samples.single_dyeing(10)
        self.assert_great(ten, GROWING + (("then", 5, 0),))
        self.assert_great(ten, GROWING + (("times", 5, 1),))
        self.assert_great(ten, GROWING + (("times", 5, 5), ("just", 6, 0)))

    def test_one_above_the_limit_in_one_entry(self):
        table = [[0] * 13 for _ in range(13)]
        for z in range(3, 13):
            table[1][z] = table[z][0] = 1
        table[2][3] = 1
        table[0][1] = table[0][2] = 2
        dyeing = samples.plain_dyed(table)
        one, two = dyeing[1][3], dyeing[0][1]
        # There are ten ways from 1 to 0 and one from 2 to 0, so that their powers are the limit and 1.
        steps = (
            ("dye", one), ("then", 0, 0), ("times", 1, 1), ("times", 1, 2), ("times", 3, 3), ("times", 4, 4),
            ("dye", two),
        )
        tables = told_tables(dyeing, steps)
        self.assertEqual((tables[5][1][0], tables[5][2][0]), (LIMIT, 1))
        self.assert_great(dyeing, steps + (("then", 6, 5),))

    def test_not_steps_comes_first(self):
        ten = samples.single_dyeing(10)
        value = GROWING + (("then", 5, 0), None)
        with self.assertRaises(NotSteps) as caught:
            told_tables(ten, value)
        self.assertEqual(caught.exception.place, 7)
        self.assertIs(is_telling(ten, value, (0, 0), (0, 1)), False)

    def test_numbers_that_would_grow_very_great(self):
        dyeing = samples.single_dyeing(16)
        for word in ("times", "then"):
            steps = (ONES, ("then", 0, 0)) + tuple((word, at, at) for at in range(1, 999))
            self.assert_great(dyeing, steps)


class TellingTest(unittest.TestCase):
    def test_telling(self):
        steps = (("dye", 1), ("then", 0, 0))
        self.assertIs(is_telling(WAY, steps, (0, 0), (1, 1)), True)
        self.assertIs(is_telling(WAY, steps, (1, 1), (0, 0)), True)
        self.assertIs(is_telling(WAY, steps, (0, 0), (0, 1)), True)
        self.assertIs(is_telling(WAY, (("dye", 1),), (0, 1), (0, 2)), True)
        self.assertIs(is_telling(OPEN, (("dye", 1),), (0, 1), (1, 0)), True)

    def test_equal_entries(self):
        steps = (("dye", 1), ("then", 0, 0))
        self.assertIs(is_telling(WAY, steps, (0, 0), (2, 2)), False)
        self.assertIs(is_telling(WAY, steps, (0, 0), (0, 0)), False)
        self.assertIs(is_telling(WAY, steps, (0, 1), (1, 2)), False)

    def test_just_the_last_table_counts(self):
        self.assertIs(is_telling(WAY, (("dye", 1), ("middle",)), (0, 1), (0, 2)), False)
        self.assertIs(is_telling(WAY, (("middle",), ("dye", 1)), (0, 1), (0, 2)), True)

    def test_the_empty_row(self):
        self.assertIs(is_telling(WAY, (), (0, 0), (0, 1)), False)

    def test_other_values(self):
        telling = ("dye", 1)
        self.assertIs(is_telling(WAY, (telling,), (0, 0), (0, 1)), True)
        wrong = [
            None, True, False, 0, "dye", [telling], {telling: 1}, telling, (telling, None), (None, telling),
            (["dye", 1],), (("dye", 3),), (("dye", True),), (telling, ("turned", 1)), (telling,) * 1001, object(),
        ]
        for value in wrong:
            self.assertIs(is_telling(WAY, value, (0, 0), (0, 1)), False)

    def test_too_great(self):
        table = [[0] * 10 for _ in range(10)]
        table[0][0] = 1
        dyeing = samples.plain_dyed(table)
        steps = (("dye", 1), ("then", 0, 0), ("times", 1, 1), ("times", 2, 2), ("times", 3, 3))
        self.assertIs(is_telling(dyeing, steps, (0, 0), (1, 1)), True)
        self.assertIs(is_telling(dyeing, steps + (("times", 4, 4), ("dye", 0)), (0, 0), (1, 1)), False)

    def test_pairs_of_one_dye_in_the_closing_have_equal_entries(self):
        told = 0
        for seed in range(80):
            sorts = [samples.way_dyeing, samples.ring_dyeing, samples.even_dyeing, lambda n: samples.random_dyeing(n, n, 2)]
            dyeing = sorts[seed % 4](2 + seed % 6)
            steps = random_steps(seed, samples.plain_dye_count(dyeing), 16)
            try:
                tables = told_tables(dyeing, steps)
            except TooGreat:
                continue
            closed = closing(dyeing)
            for table in tables:
                entries = {}
                for x, y in pairs(dyeing):
                    self.assertEqual(entries.setdefault(closed[x][y], table[x][y]), table[x][y])
            for pair in pairs(dyeing):
                for other in pairs(dyeing)[:3]:
                    telling = is_telling(dyeing, steps, pair, other)
                    self.assertIs(telling, tables[-1][pair[0]][pair[1]] != tables[-1][other[0]][other[1]])
                    told += telling
        self.assertGreater(told, 100)


if __name__ == "__main__":
    unittest.main()
