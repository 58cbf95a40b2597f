"""[16] and [17]: sheets of counts."""

import random
import unittest

from pairdyes.closings import closing
from pairdyes.errors import NotClosed, TooMany
from pairdyes.marks import place_parts
from pairdyes.numberings import numbered
from pairdyes.sheets import degree, sheet_breach, sheet_of, sizes
from tests import samples
from tests.samples import THREE, TWO, WAY, between_count, pairs

RULES = ("form", "turn", "middle", "degree", "size", "flip", "share", "sum", "order")
LOTS = ((0, 1, 2), (1, 0, 2), (3, 3, 4))


def plain_form(value):
    """Whether a value is a sheet, kind by kind."""
    def is_count(entry):
        return isinstance(entry, int) and not isinstance(entry, bool) and entry >= 0

    if not (isinstance(value, tuple) and len(value) == 3 and all(isinstance(part, tuple) for part in value)):
        return False
    middles, turns, counts = value
    r = len(counts)
    if r > 16 or len(turns) != r:
        return False
    if not all(is_count(dye) and dye < r for dye in middles + turns):
        return False
    if any(middles[k] >= middles[k + 1] for k in range(len(middles) - 1)):
        return False
    for table in counts:
        if not (isinstance(table, tuple) and len(table) == r):
            return False
        for row in table:
            if not (isinstance(row, tuple) and len(row) == r and all(is_count(entry) for entry in row)):
                return False
    return True


def plain_breach(sheet):
    """`sheet_breach`, word by word."""
    if not plain_form(sheet):
        return "form"
    middles, turn, counts = sheet
    dyes = range(len(turn))
    c = {(k, i, j): counts[k][i][j] for k in dyes for i in dyes for j in dyes}
    if any(turn[turn[i]] != i for i in dyes) or any(turn[u] != u for u in middles):
        return "turn"
    first, last = {}, {}
    for i in dyes:
        firsts = [u for u in middles if c[i, u, i] == 1]
        lasts = [v for v in middles if c[i, i, v] == 1]
        if len(firsts) != 1 or len(lasts) != 1:
            return "middle"
        first[i], last[i] = firsts[0], lasts[0]
    if any((first[u], last[u]) != (u, u) for u in middles):
        return "middle"
    for u in middles:
        for i in dyes:
            for k in dyes:
                if c[k, u, i] != (1 if k == i and first[i] == u else 0):
                    return "middle"
                if c[k, i, u] != (1 if k == i and last[i] == u else 0):
                    return "middle"
    for u in middles:
        for i in dyes:
            for j in dyes:
                if j == turn[i] and first[i] == u:
                    if c[u, i, j] < 1:
                        return "degree"
                elif c[u, i, j] != 0:
                    return "degree"
    degrees = {i: c[first[i], i, turn[i]] for i in dyes}
    size = {}
    for v in middles:
        for u in middles:
            total = sum(degrees[i] for i in dyes if first[i] == u and last[i] == v)
            if size.setdefault(v, total) != total:
                return "size"
    if any(c[k, i, j] != c[turn[k], turn[j], turn[i]] for k, i, j in c):
        return "flip"
    many = {i: size[first[i]] * degrees[i] for i in dyes}
    if any(many[k] * c[k, i, j] != many[i] * c[i, k, turn[j]] for k, i, j in c):
        return "share"
    for k in dyes:
        for i in dyes:
            if sum(c[k, i, j] for j in dyes) != (degrees[i] if first[k] == first[i] else 0):
                return "sum"
    for i in dyes:
        for j in dyes:
            for k in dyes:
                for m in dyes:
                    one = sum(c[t, i, j] * c[m, t, k] for t in dyes)
                    if one != sum(c[t, j, k] * c[m, i, t] for t in dyes):
                        return "order"
    return None


def with_entry(value, path, entry):
    """A tuple of tuples with another entry at a place."""
    if not path:
        return entry
    at, *deeper = path
    return value[:at] + (with_entry(value[at], deeper, entry),) + value[at + 1:]


def with_count(sheet, k, i, j, count):
    """A sheet with another count c(k; i, j)."""
    return with_entry(sheet, (2, k, i, j), count)


def bent_sheet():
    """What keeps all rules but the last one: four dyes that are their own turned ones, of degree 1, 2, 2 and 2."""
    def count(k, i, j):
        if 0 in (k, i, j):
            one, other = sorted((k, i, j))[1:]
            return (2 if k == 0 and one > 0 else 1) if one == other else 0
        return 1 if k == i == j else 2 if len({k, i, j}) == 3 else 0

    return ((0,), (0, 1, 2, 3), tuple(tuple(tuple(count(k, i, j) for j in range(4)) for i in range(4)) for k in range(4)))


def sheets():
    """Sheets of closed dyeings of several sorts."""
    dyeings = [dyeing for dyeing in samples.closed_dyeings(6) if samples.plain_dye_count(dyeing) <= 16]
    return [sheet_of(dyeing) for dyeing in dyeings]


class SheetOfTest(unittest.TestCase):
    def test_by_hand(self):
        self.assertEqual(sheet_of(()), ((), (), ()))
        self.assertEqual(sheet_of(((0,),)), ((0,), (0,), (((1,),),)))
        self.assertEqual(sheet_of(TWO), ((0,), (0, 1), (((1, 0), (0, 1)), ((0, 1), (1, 0)))))
        self.assertEqual(sheet_of(THREE), ((0,), (0, 1), (((1, 0), (0, 2)), ((0, 1), (1, 1)))))
        self.assertEqual(sheet_of(samples.ring_dyeing(3)), ((0,), (0, 2, 1), (
            ((1, 0, 0), (0, 0, 1), (0, 1, 0)), ((0, 1, 0), (1, 0, 0), (0, 0, 1)), ((0, 0, 1), (0, 1, 0), (1, 0, 0)),
        )))
        self.assertEqual(sheet_of(LOTS)[:2], ((0, 4), (0, 1, 3, 2, 4)))
        self.assertEqual(sheet_of(LOTS)[2][4], (
            (0, 0, 0, 0, 0), (0, 0, 0, 0, 0), (0, 0, 0, 0, 0), (0, 0, 2, 0, 0), (0, 0, 0, 0, 1),
        ))

    def test_by_counting_from_each_pair(self):
        dyeings = samples.closed_dyeings(6) + samples.even_dyeings()
        for dyeing in dyeings:
            r = samples.plain_dye_count(dyeing)
            if r <= 16:
                middles, turns, counts = sheet_of(dyeing)
                self.assertEqual(middles, tuple(sorted({dyeing[x][x] for x in range(len(dyeing))})))
                self.assertEqual((len(turns), len(counts)), (r, r))
                for x, y in pairs(dyeing):
                    self.assertEqual(turns[dyeing[x][y]], dyeing[y][x])
                few = [(i, j) for i in range(r) for j in range(r)][::1 + r // 8]
                for x, y in pairs(dyeing)[::1 + len(dyeing) // 6]:
                    for i, j in few:
                        self.assertEqual(counts[dyeing[x][y]][i][j], between_count(dyeing, i, j, x, y))

    def test_kinds_of_the_values(self):
        for dyeing in ((), ((0,),), TWO, LOTS, samples.swaps_dyeing(), samples.cube_dyeing(4)):
            sheet = sheet_of(dyeing)
            self.assertTrue(plain_form(sheet))
            for part in sheet:
                self.assertIs(type(part), tuple)
            for table in sheet[2]:
                self.assertIs(type(table), tuple)
                self.assertTrue(all(type(row) is tuple for row in table))
                self.assertTrue(all(type(entry) is int for row in table for entry in row))

    def test_others_may_have_the_same(self):
        self.assertEqual(sheet_of(samples.shrikhande_dyeing()), sheet_of(samples.rook_dyeing()))

    def test_not_closed_and_too_many(self):
        for dyeing in (WAY, ((0, 0), (0, 0)), ((0, 1), (1, 1)), samples.way_dyeing(16), samples.random_dyeing(1, 16, 40)):
            self.assertRaises(NotClosed, sheet_of, dyeing)
        # This one has 29 dyes and is not closed.
        self.assertRaises(NotClosed, sheet_of, samples.plain_dyed([[min(7 * x + y, 28) for y in range(7)] for x in range(7)]))
        lots = samples.plain_dyed([[(x // 4, y // 4, x == y) for y in range(16)] for x in range(16)])
        for dyeing in (samples.full_dyeing(5), samples.full_dyeing(16), closing(samples.way_dyeing(9)), lots):
            with self.assertRaises(TooMany) as caught:
                sheet_of(dyeing)
            self.assertEqual(caught.exception.limit, 16)

    def test_just_sixteen_dyes_and_seventeen(self):
        sixteen = [samples.full_dyeing(4), samples.ring_dyeing(16), samples.xor_dyeing(4)]
        for dyeing in sixteen:
            self.assertEqual(len(sheet_of(dyeing)[1]), 16)
            self.assertIsNone(sheet_breach(sheet_of(dyeing)))
        # Three lots of one place and one of two have a dye from each lot to each one, and one more in the last one.
        seventeen = samples.plain_dyed([[(min(x, 3), min(y, 3), x == y) for y in range(5)] for x in range(5)])
        self.assertEqual(samples.plain_dye_count(closing(seventeen)), 17)
        self.assertRaises(TooMany, sheet_of, closing(seventeen))


class BreachTest(unittest.TestCase):
    def assert_breach(self, value, word):
        self.assertEqual(sheet_breach(value), word)
        self.assertEqual(plain_breach(value), word)

    def test_sheets_break_no_rule(self):
        for dyeing in samples.closed_dyeings(7) + samples.even_dyeings():
            if samples.plain_dye_count(dyeing) <= 16:
                self.assertIsNone(sheet_breach(sheet_of(dyeing)))

    def test_values_of_other_kinds(self):
        for value in samples.OTHER_VALUES + [(), ((),), ((), ()), ((), (), (), ()), "sheet", ((), (), []), [(), (), ()]]:
            self.assert_breach(value, "form")
            for at in range(3):
                if value != ():
                    self.assert_breach(with_entry(((), (), ()), (at,), value), "form")
                    self.assert_breach(with_entry(sheet_of(LOTS), (at,), value), "form")

    def test_other_kinds_at_each_depth(self):
        sheet = sheet_of(LOTS)
        for path in [(0, 0), (0, 1), (1, 0), (1, 4), (2, 0), (2, 4), (2, 0, 0), (2, 4, 3), (2, 0, 0, 0), (2, 4, 3, 2)]:
            for entry in samples.OTHER_VALUES + [(), (0,), ((0,),), -1, -5, "0"]:
                if type(entry) is not int or entry < 0:
                    self.assert_breach(with_entry(sheet, path, entry), "form")
        for at in range(3):
            self.assert_breach(with_entry(sheet, (at,), list(sheet[at])), "form")
        for k in range(5):
            self.assert_breach(with_entry(sheet, (2, k), list(sheet[2][k])), "form")
            self.assert_breach(with_entry(sheet, (2, k, k), list(sheet[2][k][k])), "form")
        self.assert_breach(list(sheet), "form")

    def test_too_short_and_too_long(self):
        sheet = sheet_of(LOTS)
        for path in [(), (1,), (2,), (2, 0), (2, 4), (2, 1, 1), (2, 4, 0)]:
            part = sheet
            for at in path:
                part = part[at]
            for other in (part[:-1], part + part[-1:], ()):
                self.assert_breach(with_entry(sheet, path, other), "form")

    def test_dyes_and_their_sequence(self):
        sheet = sheet_of(LOTS)
        for middles in [(4, 0), (0, 0, 4), (0, 4, 4), (0, 5), (5,), (-1, 0), (0, 10 ** 30)]:
            self.assert_breach(with_entry(sheet, (0,), middles), "form")
        for turn in (5, 16, -1, 10 ** 30):
            self.assert_breach(with_entry(sheet, (1, 2), turn), "form")

    def test_no_dyes_sixteen_and_seventeen(self):
        def plain_sheet(r):
            # The dyes are the entries of two rows of numbers by remainders of their sums.
            counts = tuple(tuple(tuple(int((i + j - k) % r == 0) for j in range(r)) for i in range(r)) for k in range(r))
            return (0,), tuple((r - i) % r for i in range(r)), counts

        self.assertIsNone(sheet_breach(((), (), ())))
        self.assert_breach(((0,), (), ()), "form")
        self.assert_breach(((), (0,), ()), "form")
        self.assertEqual(plain_sheet(16), sheet_of(samples.ring_dyeing(16)))
        self.assertIsNone(sheet_breach(plain_sheet(16)))
        self.assert_breach(plain_sheet(17), "form")
        self.assert_breach(plain_sheet(20), "form")

    def test_each_rule_with_none_broken_ahead(self):
        three = sheet_of(THREE)
        ring = sheet_of(samples.ring_dyeing(3))
        five = sheet_of(samples.hoop_dyeing(5))
        lots = sheet_of(LOTS)
        broken = [
            (with_entry(three, (1,), (1, 0)), "turn"), (with_entry(three, (1,), (0, 0)), "turn"),
            (with_entry(ring, (1,), (0, 2, 2)), "turn"), (with_entry(ring, (0,), (0, 1)), "turn"),
            (with_entry(three, (0,), ()), "middle"), (with_entry(three, (0,), (1,)), "middle"),
            (with_entry(three, (0,), (0, 1)), "middle"), (with_entry(lots, (0,), (0,)), "middle"),
            (with_count(three, 1, 0, 1, 2), "middle"), (with_count(three, 1, 1, 0, 0), "middle"),
            (with_count(three, 0, 0, 1, 1), "middle"), (with_count(three, 0, 1, 0, 3), "middle"),
            (with_count(three, 0, 0, 0, 0), "middle"), (with_count(three, 0, 0, 0, 2), "middle"),
            (with_count(lots, 2, 4, 2, 1), "middle"), (with_count(lots, 2, 2, 0, 1), "middle"),
            (with_count(lots, 1, 4, 2, 1), "middle"), (with_count(lots, 1, 2, 0, 2), "middle"),
            (with_count(three, 0, 1, 1, 0), "degree"), (with_count(ring, 0, 1, 1, 1), "degree"),
            (with_count(lots, 4, 2, 3, 2), "degree"), (with_count(lots, 0, 1, 2, 1), "degree"),
            (with_count(lots, 4, 3, 2, 5), "size"), (with_count(lots, 0, 1, 1, 2), "size"),
            (with_count(ring, 1, 1, 2, 7), "flip"), (with_count(ring, 1, 1, 1, 1), "flip"),
            (with_count(lots, 1, 0, 1, 1), None),
            (with_count(five, 2, 1, 1, 3), "share"), (with_count(with_count(five, 1, 1, 2, 2), 1, 2, 1, 2), "share"),
            (with_count(three, 1, 1, 1, 5), "sum"), (with_count(five, 1, 1, 1, 1), "sum"),
            (bent_sheet(), "order"),
        ]
        for sheet, word in broken:
            self.assert_breach(sheet, word)
        self.assertEqual({word for _, word in broken}, {*RULES[1:], None})

    def test_the_first_of_several_counts(self):
        sheet = bent_sheet()
        self.assert_breach(sheet, "order")
        sheet = with_count(sheet, 1, 1, 1, 4)
        self.assert_breach(sheet, "sum")
        sheet = with_count(sheet, 2, 1, 1, 3)
        self.assert_breach(sheet, "share")
        sheet = with_count(sheet, 2, 1, 3, 9)
        self.assert_breach(sheet, "flip")
        self.assert_breach(with_count(sheet, 0, 1, 2, 1), "degree")
        self.assert_breach(with_count(with_count(sheet, 0, 1, 2, 1), 0, 0, 1, 1), "middle")
        self.assert_breach(with_entry(with_count(sheet, 0, 0, 1, 1), (1,), (0, 1, 3, 3)), "turn")
        self.assert_breach(with_entry(with_count(sheet, 0, 0, 1, True), (1,), (0, 1, 3, 3)), "form")

    def test_changed_sheets_rule_by_rule(self):
        source = random.Random(7)
        words = {}
        for sheet in [sheet for sheet in sheets() if sheet[1]] * 12:
            changed = sheet
            for _ in range(source.randrange(1, 4)):
                k, i, j = [source.randrange(len(sheet[1])) for _ in range(3)]
                if source.random() < 0.3:
                    k, j = source.choice(sheet[0]), sheet[1][i]
                count = source.randrange(4)
                changed = with_count(changed, k, i, j, count)
                if source.random() < 0.7:
                    turns = sheet[1]
                    changed = with_count(changed, turns[k], turns[j], turns[i], count)
            word = plain_breach(changed)
            self.assertEqual(sheet_breach(changed), word)
            words[word] = True
        self.assertLessEqual({None, "middle", "degree", "size", "flip", "share", "sum"}, set(words))

    def test_sixteen_dyes_without_a_long_run(self):
        # Fifteen dyes of one degree, of which any two unlike ones lead to each other one: they fit.
        def count(k, i, j):
            if 0 in (k, i, j):
                one, other = sorted((k, i, j))[1:]
                return (13 if k == 0 and one > 0 else 1) if one == other else 0
            return (12 if k == i == j else 0) if len({k, i, j}) < 3 else 1

        dyes = range(16)
        counts = tuple(tuple(tuple(count(k, i, j) for j in dyes) for i in dyes) for k in dyes)
        self.assertIsNone(sheet_breach(((0,), tuple(dyes), counts)))
        self.assertEqual(sheet_breach(with_count(((0,), tuple(dyes), counts), 3, 3, 3, 11)), "sum")


class NumbersTest(unittest.TestCase):
    def test_by_hand(self):
        self.assertEqual(sizes(((), (), ())), ())
        self.assertEqual(sizes(sheet_of(((0,),))), (1,))
        self.assertEqual(sizes(sheet_of(THREE)), (3,))
        self.assertEqual([degree(sheet_of(THREE), dye) for dye in (0, 1)], [1, 2])
        self.assertEqual(sizes(sheet_of(LOTS)), (2, 1))
        self.assertEqual([degree(sheet_of(LOTS), dye) for dye in range(5)], [1, 1, 1, 2, 1])

    def test_by_counting_pairs_and_places(self):
        dyeings = samples.closed_dyeings(7) + samples.even_dyeings()
        dyeings += [numbered(LOTS, (2, 0, 1)), numbered(samples.plain_marked(samples.even_dyeing(6), 2), (2, 0, 3, 4, 1, 5))]
        for dyeing in dyeings:
            r = samples.plain_dye_count(dyeing)
            if r <= 16:
                sheet = sheet_of(dyeing)
                for x, row in enumerate(dyeing):
                    for dye in set(row):
                        self.assertEqual(degree(sheet, dye), row.count(dye))
                self.assertEqual(sizes(sheet), tuple(sum(row[x] == u for x, row in enumerate(dyeing)) for u in sheet[0]))
                self.assertEqual(sizes(sheet), tuple(len(part) for part in place_parts(dyeing)))
                self.assertIs(type(sizes(sheet)), tuple)


if __name__ == "__main__":
    unittest.main()
