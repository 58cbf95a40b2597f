"""[18]: leads of dyes from one sheet to another one."""

import unittest
from itertools import permutations

from pairdyes.errors import TooMany
from pairdyes.leads import leads
from pairdyes.numberings import numbered
from pairdyes.sheetleads import dye_leads
from pairdyes.sheets import sheet_breach, sheet_of
from tests import samples
from tests.samples import THREE, TWO

LOTS = ((0, 1, 2), (1, 0, 2), (3, 3, 4))


def is_plain_lead(one, other, q):
    """Whether a listing of the dyes keeps middles, turned dyes and all counts."""
    dyes = range(len(q))
    return (
        all(q[u] in other[0] for u in one[0])
        and all(q[one[1][i]] == other[1][q[i]] for i in dyes)
        and all(one[2][k][i][j] == other[2][q[k]][q[i]][q[j]] for k in dyes for i in dyes for j in dyes)
    )


def plain_dye_leads(one, other):
    """All leads by trying all listings."""
    return tuple(q for q in permutations(range(len(one[1]))) if is_plain_lead(one, other, q))


def plane_sheet(m, q):
    """A sheet of m dyes beside the middle, of which any listing is a lead: those of lines in m ways, q on a line."""
    def count(k, i, j):
        if 0 in (k, i, j):
            one, other = sorted((k, i, j))[1:]
            return (q - 1 if k == 0 and one > 0 else 1) if one == other else 0
        return (q - 2 if k == i == j else 0) if len({k, i, j}) < 3 else 1

    dyes = range(m + 1)
    return (0,), tuple(dyes), tuple(tuple(tuple(count(k, i, j) for j in dyes) for i in dyes) for k in dyes)


class DyeLeadsTest(unittest.TestCase):
    def test_by_hand(self):
        empty = sheet_of(())
        self.assertEqual(dye_leads(empty, empty), ((),))
        self.assertEqual(dye_leads(sheet_of(((0,),)), sheet_of(((0,),))), ((0,),))
        self.assertEqual(dye_leads(sheet_of(TWO), sheet_of(TWO)), ((0, 1),))
        self.assertEqual(dye_leads(sheet_of(TWO), sheet_of(THREE)), ())
        ring = sheet_of(samples.ring_dyeing(3))
        self.assertEqual(dye_leads(ring, ring), ((0, 1, 2), (0, 2, 1)))
        full = sheet_of(samples.full_dyeing(2))
        self.assertEqual(dye_leads(full, full), ((0, 1, 2, 3), (3, 2, 1, 0)))
        self.assertEqual(dye_leads(sheet_of(LOTS), sheet_of(LOTS)), ((0, 1, 2, 3, 4),))
        other = numbered(LOTS, (2, 0, 1))
        self.assertEqual(other, ((0, 1, 1), (2, 3, 4), (2, 4, 3)))
        self.assertEqual(dye_leads(sheet_of(LOTS), sheet_of(other)), ((3, 4, 2, 1, 0),))
        self.assertEqual(dye_leads(sheet_of(other), sheet_of(LOTS)), ((4, 3, 2, 0, 1),))

    def test_against_all_listings(self):
        dyeings = [dyeing for dyeing in samples.closed_dyeings(6) if samples.plain_dye_count(dyeing) <= 6]
        dyeings += [numbered(dyeing, samples.random_listing(5, len(dyeing))) for dyeing in dyeings]
        told = [sheet_of(dyeing) for dyeing in dyeings] + [plane_sheet(4, 3), plane_sheet(5, 4), plane_sheet(5, 5)]
        for one in told:
            for other in told[::2] + [one]:
                if len(one[1]) == len(other[1]):
                    self.assertEqual(dye_leads(one, other), plain_dye_leads(one, other))

    def test_turned_dyes_and_middles_are_kept(self):
        swaps = sheet_of(samples.swaps_dyeing())
        self.assertEqual(dye_leads(swaps, swaps), plain_dye_leads(swaps, swaps))
        self.assertEqual(len(dye_leads(swaps, swaps)), 6)
        self.assertEqual(dye_leads(swaps, sheet_of(samples.ring_dyeing(6))), ())

    def test_eight_dyes(self):
        ring = sheet_of(samples.ring_dyeing(8))
        xor = sheet_of(samples.xor_dyeing(3))
        even = [tuple(k * x % 8 for x in range(8)) for k in (1, 3, 5, 7)]
        self.assertEqual(dye_leads(ring, ring), tuple(even))
        told = dye_leads(xor, xor)
        self.assertEqual(len(told), 168)
        self.assertEqual(told, tuple(sorted(told)))
        self.assertTrue(all(is_plain_lead(xor, xor, q) for q in told))
        self.assertTrue(all(q[x ^ y] == q[x] ^ q[y] for q in told for x in range(8) for y in range(8)))
        self.assertEqual(dye_leads(ring, xor), ())
        plane = plane_sheet(7, 6)
        self.assertIsNone(sheet_breach(plane))
        self.assertEqual(dye_leads(plane, plane), tuple((0,) + q for q in permutations(range(1, 8))))
        self.assertEqual(dye_leads(plane, plane_sheet(7, 7)), ())

    def test_unlike_numbers_of_dyes(self):
        told = [sheet_of(samples.ring_dyeing(n)) for n in range(9)]
        for one in told:
            for other in told:
                if len(one[1]) != len(other[1]):
                    self.assertEqual(dye_leads(one, other), ())

    def test_more_than_eight_dyes_in_either_one(self):
        for one, other in [(9, 9), (9, 8), (8, 9), (0, 9), (9, 0), (16, 16), (1, 16)]:
            with self.assertRaises(TooMany) as caught:
                dye_leads(sheet_of(samples.ring_dyeing(one)), sheet_of(samples.ring_dyeing(other)))
            self.assertEqual(caught.exception.limit, 8)
        full = sheet_of(samples.full_dyeing(3))
        self.assertRaises(TooMany, dye_leads, full, full)

    def test_leads_of_places_give_leads_of_dyes(self):
        for dyeing in [dyeing for dyeing in samples.closed_dyeings(5) if samples.plain_dye_count(dyeing) <= 8]:
            n = len(dyeing)
            for seed in (1, 2):
                one = numbered(dyeing, samples.random_listing(seed, n))
                told = dye_leads(sheet_of(one), sheet_of(dyeing))
                for p in leads(one, dyeing):
                    taken = {one[x][y]: dyeing[p[x]][p[y]] for x in range(n) for y in range(n)}
                    self.assertIn(tuple(taken[dye] for dye in sorted(taken)), told)


if __name__ == "__main__":
    unittest.main()
