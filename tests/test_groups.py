"""[14]: dyeings by moves and by listings."""

import unittest

from pairdyes.closings import closing, is_closed
from pairdyes.dyeings import dyeing_breach
from pairdyes.errors import TooMany
from pairdyes.groups import group_dyeing, move_dyeing
from pairdyes.moves import is_move, moves_of
from pairdyes.orders import is_within
from tests import samples
from tests.samples import TWO, WAY, pairs


def plain_group_dyeing(n, listings):
    """The dyeing by walking from pair to pair along the listings and back."""
    table = {}
    for start in [(x, y) for x in range(n) for y in range(n)]:
        if start not in table:
            reached = [start]
            table[start] = start
            for x, y in reached:
                for listing in listings:
                    for pair in ((listing[x], listing[y]), (listing.index(x), listing.index(y))):
                        if pair not in table:
                            table[pair] = start
                            reached.append(pair)
    return samples.plain_dyed([[table[x, y] for y in range(n)] for x in range(n)])


class GroupDyeingTest(unittest.TestCase):
    def test_by_hand(self):
        self.assertEqual(group_dyeing(0, ()), ())
        self.assertEqual(group_dyeing(0, ((),)), ())
        self.assertEqual(group_dyeing(1, ()), ((0,),))
        self.assertEqual(group_dyeing(1, ((0,), (0,))), ((0,),))
        self.assertEqual(group_dyeing(2, ()), ((0, 1), (2, 3)))
        self.assertEqual(group_dyeing(2, ((0, 1),)), ((0, 1), (2, 3)))
        self.assertEqual(group_dyeing(2, ((1, 0),)), TWO)
        self.assertEqual(group_dyeing(3, ((2, 1, 0),)), ((0, 1, 2), (3, 4, 3), (2, 1, 0)))
        self.assertEqual(group_dyeing(3, ((1, 2, 0),)), ((0, 1, 2), (2, 0, 1), (1, 2, 0)))
        self.assertEqual(group_dyeing(4, ((1, 0, 2, 3), (0, 1, 3, 2))), ((0, 1, 2, 2), (1, 0, 2, 2), (3, 3, 4, 5), (3, 3, 5, 4)))

    def test_no_listing_gives_each_pair_a_dye(self):
        for n in range(17):
            self.assertEqual(group_dyeing(n, ()), samples.full_dyeing(n))

    def test_sixteen_places(self):
        step = tuple((x + 1) % 16 for x in range(16))
        swap = (1, 0) + tuple(range(2, 16))
        self.assertEqual(group_dyeing(16, (step,)), samples.ring_dyeing(16))
        self.assertEqual(group_dyeing(16, (step, tuple(reversed(range(16))))), samples.hoop_dyeing(16))
        self.assertEqual(group_dyeing(16, (step, swap)), samples.even_dyeing(16))
        self.assertEqual(group_dyeing(16, tuple(tuple(x ^ k for x in range(16)) for k in (1, 2, 4, 8))), samples.xor_dyeing(4))

    def test_by_walking(self):
        for seed in range(60):
            n = seed % 9
            listings = tuple(samples.random_listing(10 * seed + k, n) for k in range(seed % 4))
            listings += (tuple(range(n)),) * (seed % 2)
            if n > 4 and seed % 3 == 0:
                listings = ((1, 0) + tuple(range(2, n)), (0, 1, 3, 4, 2) + tuple(range(5, n)))
            told = group_dyeing(n, listings)
            self.assertEqual(told, plain_group_dyeing(n, listings))
            self.assertIsNone(dyeing_breach(told))
            self.assertIs(is_closed(told), True)
            self.assertTrue(all(is_move(told, listing) for listing in listings))
            self.assertEqual(group_dyeing(n, listings[::-1]), told)
            self.assertEqual(group_dyeing(n, listings + listings[:1]), told)

    def test_many_listings(self):
        dyeing = samples.blocks_dyeing(6, 3)
        self.assertEqual(group_dyeing(6, moves_of(dyeing)), dyeing)
        self.assertEqual(group_dyeing(16, moves_of(samples.cube_dyeing(4))), samples.cube_dyeing(4))

    def test_more_than_sixteen_places_are_too_many(self):
        for n in (17, 20):
            with self.assertRaises(TooMany) as caught:
                group_dyeing(n, ())
            self.assertEqual(caught.exception.limit, 16)


class MoveDyeingTest(unittest.TestCase):
    def test_by_hand(self):
        self.assertEqual(move_dyeing(()), ())
        self.assertEqual(move_dyeing(((0,),)), ((0,),))
        self.assertEqual(move_dyeing(((0, 0), (0, 0))), TWO)
        self.assertEqual(move_dyeing(WAY), ((0, 1, 2), (3, 4, 3), (2, 1, 0)))

    def test_by_all_moves(self):
        for dyeing in samples.some_dyeings(6) + samples.all_dyeings(2) + samples.all_dyeings(3)[::311]:
            moves = samples.plain_moves(dyeing)
            n = len(dyeing)
            ends = [[frozenset((p[x], p[y]) for p in moves) for y in range(n)] for x in range(n)]
            self.assertEqual(move_dyeing(dyeing), samples.plain_dyed(ends))

    def test_it_is_closed_and_within_the_closing_and_it_up_to_eight_places(self):
        for dyeing in samples.some_dyeings(8):
            told = move_dyeing(dyeing)
            self.assertIs(is_closed(told), True)
            self.assertEqual(told, closing(dyeing))
        for n in (9, 12, 16):
            for dyeing in (samples.way_dyeing(n), samples.hoop_dyeing(n), samples.random_dyeing(n, n, 2)):
                told = move_dyeing(dyeing)
                self.assertIs(is_closed(told), True)
                self.assertTrue(is_within(told, closing(dyeing)))

    def test_sixteen_places_where_it_is_not_the_closing(self):
        dyeing = samples.shrikhande_dyeing()
        told = move_dyeing(dyeing)
        self.assertEqual(closing(dyeing), dyeing)
        self.assertNotEqual(told, dyeing)
        self.assertTrue(is_within(told, dyeing))
        self.assertIs(is_closed(told), True)
        self.assertEqual([sum(row.count(dye) for row in told) for dye in range(4)], [16, 96, 48, 96])
        moves = moves_of(dyeing)
        for x, y in pairs(dyeing)[::17]:
            self.assertEqual({told[p[x]][p[y]] for p in moves}, {told[x][y]})
        self.assertEqual(move_dyeing(samples.rook_dyeing()), samples.rook_dyeing())

    def test_sixteen_places_of_one_dye(self):
        self.assertEqual(move_dyeing(samples.single_dyeing(16)), samples.even_dyeing(16))
        self.assertEqual(move_dyeing(samples.full_dyeing(16)), samples.full_dyeing(16))


if __name__ == "__main__":
    unittest.main()
