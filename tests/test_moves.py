"""[13]: moves."""

import math
import unittest
from itertools import permutations

from pairdyes.closings import closing
from pairdyes.errors import TooMany
from pairdyes.moves import carrying_move, is_move, move_count, moves_of
from pairdyes.numberings import numbered
from tests import samples
from tests.samples import THREE, TWO, WAY, pairs, plain_moves


def beside(*dyeings):
    """The dyeing of dyeings one behind the other, of which no two share a dye, and others across."""
    n = sum(len(dyeing) for dyeing in dyeings)
    table = [[-1] * n for _ in range(n)]
    start = 0
    for k, dyeing in enumerate(dyeings):
        for x, y in pairs(dyeing):
            table[start + x][start + y] = 1000 * k + dyeing[x][y]
        start += len(dyeing)
    return samples.plain_dyed(table)


def scrambled(dyeing, seed):
    """The dyeing with its places numbered otherwise, so that no part of it lies together."""
    return numbered(dyeing, samples.random_listing(seed, len(dyeing)))


def plain_product(moves, n):
    """The product over the places of the numbers of places to which moves that leave all lesser places take them."""
    product = 1
    for x in range(n):
        product *= len({p[x] for p in moves if p[:x] == tuple(range(x))})
    return product


# Dyeings with their numbers of moves, of up to sixteen places.
KNOWN = [
    ((), 1), (((0,),), 1), (TWO, 2), (WAY, 2), (THREE, 6),
    *[(samples.even_dyeing(n), math.factorial(n)) for n in (4, 7, 8, 12, 16)],
    *[(samples.single_dyeing(n), math.factorial(n)) for n in (2, 9, 16)],
    *[(samples.full_dyeing(n), 1) for n in (2, 9, 16)],
    *[(samples.ring_dyeing(n), n) for n in (3, 9, 16)],
    *[(samples.hoop_dyeing(n), 2 * n) for n in (3, 9, 16)],
    *[(samples.way_dyeing(n), 2) for n in (2, 9, 16)],
    (samples.cube_dyeing(3), 48), (samples.cube_dyeing(4), 384),
    (samples.xor_dyeing(3), 8), (samples.xor_dyeing(4), 16),
    (samples.swaps_dyeing(), 6), (samples.turns_dyeing(), 12), (samples.petersen_dyeing(), 120),
    (samples.shrikhande_dyeing(), 192), (samples.rook_dyeing(), 1152),
    (samples.blocks_dyeing(16, 4), 24 ** 5), (samples.blocks_dyeing(16, 2), 2 ** 8 * math.factorial(8)),
    (samples.blocks_dyeing(16, 8), 2 * math.factorial(8) ** 2), (samples.blocks_dyeing(12, 3), 6 ** 4 * 24),
    (beside(samples.even_dyeing(8), samples.even_dyeing(8)), math.factorial(8) ** 2),
    (beside(samples.even_dyeing(8), samples.way_dyeing(8)), 2 * math.factorial(8)),
    (beside(samples.even_dyeing(6), samples.petersen_dyeing()), 720 * 120),
    (beside(samples.ring_dyeing(5), samples.hoop_dyeing(5), samples.random_dyeing(1, 5, 3)), 50),
]


class IsMoveTest(unittest.TestCase):
    def test_listings(self):
        for dyeing in samples.some_dyeings(4):
            moves = plain_moves(dyeing)
            for listing in permutations(range(len(dyeing))):
                self.assertIs(is_move(dyeing, listing), listing in moves)
        self.assertIs(is_move((), ()), True)
        self.assertIs(is_move(WAY, (2, 1, 0)), True)
        self.assertIs(is_move(WAY, (1, 0, 2)), False)

    def test_a_ring_is_not_taken_the_other_way_round(self):
        ring = samples.ring_dyeing(5)
        self.assertIs(is_move(ring, (1, 2, 3, 4, 0)), True)
        self.assertIs(is_move(ring, (4, 3, 2, 1, 0)), False)

    def test_sixteen_places(self):
        listing = samples.random_listing(3, 16)
        self.assertIs(is_move(samples.even_dyeing(16), listing), True)
        self.assertIs(is_move(samples.ring_dyeing(16), listing), False)

    def test_values_of_other_kinds(self):
        for value in samples.OTHER_VALUES + ["012", "210", b"\x00\x01\x02", [0, 1, 2], {0: 0, 1: 1, 2: 2}, range(3)]:
            self.assertIs(is_move(THREE, value), False)
            self.assertIs(is_move((), value), False)
            self.assertIs(is_move(((0,),), value), False)

    def test_tuples_that_are_no_listing(self):
        wrong = [
            (), (0,), (0, 1), (0, 1, 2, 3), (0, 1, 1), (0, 0, 0), (2, 2, 1), (-1, 0, 1), (0, 1, -1), (0, 1, 3),
            (1, 2, 3), (0, 1, 10 ** 30), (0, True, 2), (False, 1, 2), (0, 1.0, 2), (0, "1", 2), (0, None, 2),
            (0, (1,), 2), (0, [1], 2), (0, {}, 2), ("0", "1", "2"), ((0, 1, 2),), ([0, 1, 2],), (0, 1, {2}),
            tuple(range(1000)),
        ]
        for value in wrong:
            self.assertIs(is_move(THREE, value), False)
        for value in [(True,), (False,), (1,), (-1,), (None,), ((),), ([],), ("0",), (0.0,), (0, 0)]:
            self.assertIs(is_move(((0,),), value), False)
        self.assertIs(is_move(TWO, (True, False)), False)
        self.assertIs(is_move(TWO, (1, False)), False)


class MovesTest(unittest.TestCase):
    def test_by_hand(self):
        self.assertEqual(moves_of(()), ((),))
        self.assertEqual(moves_of(((0,),)), ((0,),))
        self.assertEqual(moves_of(TWO), ((0, 1), (1, 0)))
        self.assertEqual(moves_of(WAY), ((0, 1, 2), (2, 1, 0)))
        self.assertEqual(moves_of(((0, 1), (2, 3))), ((0, 1),))
        self.assertEqual(moves_of(samples.ring_dyeing(3)), ((0, 1, 2), (1, 2, 0), (2, 0, 1)))

    def test_all_listings_of_up_to_six_places(self):
        dyeings = samples.some_dyeings(6) + [samples.hoop_dyeing(6), samples.blocks_dyeing(6, 2), samples.swaps_dyeing()]
        for dyeing in dyeings + samples.all_dyeings(2) + samples.all_dyeings(3)[::211]:
            moves = plain_moves(dyeing)
            self.assertEqual(moves_of(dyeing), moves)
            self.assertEqual(move_count(dyeing), len(moves))
            self.assertEqual(plain_product(moves, len(dyeing)), len(moves))

    def test_they_ascend_and_are_moves_up_to_sixteen_places(self):
        for dyeing, many in KNOWN:
            if many <= 1000:
                moves = moves_of(dyeing)
                self.assertEqual(moves, tuple(sorted(set(moves))))
                self.assertEqual(len(moves), many)
                self.assertTrue(all(is_move(dyeing, move) for move in moves))
                self.assertEqual(plain_product(moves, len(dyeing)), many)

    def test_just_a_thousand(self):
        hoop = samples.hoop_dyeing(5)
        dyeing = scrambled(beside(hoop, hoop, hoop), 1)
        moves = moves_of(dyeing)
        self.assertEqual((len(moves), move_count(dyeing)), (1000, 1000))
        self.assertEqual(moves, tuple(sorted(set(moves))))
        self.assertTrue(all(is_move(dyeing, move) for move in moves))

    def test_more_than_a_thousand_are_too_many(self):
        great = [dyeing for dyeing, many in KNOWN if many > 1000]
        great.append(scrambled(beside(samples.hoop_dyeing(7), THREE, samples.hoop_dyeing(6)), 2))
        self.assertEqual(move_count(great[-1]), 1008)
        for dyeing in great:
            with self.assertRaises(TooMany) as caught:
                moves_of(dyeing)
            self.assertEqual(caught.exception.limit, 1000)


class CountTest(unittest.TestCase):
    def test_known_numbers(self):
        for k, (dyeing, many) in enumerate(KNOWN):
            self.assertEqual(move_count(dyeing), many)
            self.assertEqual(move_count(scrambled(dyeing, k)), many)

    def test_a_dyeing_and_its_closing_have_the_same(self):
        for dyeing in [dyeing for dyeing, _ in KNOWN] + samples.some_dyeings(8):
            self.assertEqual(move_count(closing(dyeing)), move_count(dyeing))
        for dyeing in samples.some_dyeings(6):
            self.assertEqual(moves_of(closing(dyeing)), moves_of(dyeing))


class CarryingTest(unittest.TestCase):
    def assert_carried(self, dyeing, pair, other, is_carried):
        move = carrying_move(dyeing, pair, other)
        self.assertIs(move is not None, is_carried, (pair, other))
        if is_carried:
            self.assertIs(is_move(dyeing, move), True)
            self.assertEqual((move[pair[0]], move[pair[1]]), other)

    def test_against_all_moves(self):
        dyeings = [dyeing for dyeing in samples.some_dyeings(5) if len(dyeing) not in (0, 4)] + [samples.hoop_dyeing(6)]
        for dyeing in dyeings + samples.all_dyeings(3)[::2333]:
            carried = {(pair, (p[pair[0]], p[pair[1]])) for p in plain_moves(dyeing) for pair in pairs(dyeing)}
            for pair in pairs(dyeing):
                for other in pairs(dyeing):
                    self.assert_carried(dyeing, pair, other, (pair, other) in carried)

    def test_middle_pairs(self):
        self.assert_carried(WAY, (0, 0), (2, 2), True)
        self.assert_carried(WAY, (0, 0), (1, 1), False)
        self.assert_carried(WAY, (0, 0), (0, 1), False)
        self.assert_carried(samples.single_dyeing(3), (0, 0), (0, 1), False)
        self.assert_carried(samples.single_dyeing(3), (0, 1), (2, 2), False)
        self.assert_carried(samples.single_dyeing(3), (0, 0), (2, 2), True)

    def test_sixteen_places_against_all_moves(self):
        ring = samples.ring_dyeing(8)
        dyeings = [samples.shrikhande_dyeing(), samples.cube_dyeing(4), samples.xor_dyeing(4), samples.hoop_dyeing(16)]
        dyeings += [samples.way_dyeing(16), samples.random_dyeing(7, 16, 2), beside(ring, ring)]
        for k, dyeing in enumerate(dyeings):
            dyeing = scrambled(dyeing, k)
            moves = moves_of(dyeing)
            for pair in [(0, 0), (0, 1), (3, 7), (15, 2)]:
                ends = {(p[pair[0]], p[pair[1]]) for p in moves}
                for other in pairs(dyeing)[::3]:
                    self.assert_carried(dyeing, pair, other, other in ends)

    def test_what_counting_does_not_tell_apart(self):
        # Some pairs of one dye in the closing are not taken to each other; this shows only at the last places.
        dyeing = samples.shrikhande_dyeing()
        self.assertEqual(closing(dyeing), dyeing)
        # Two places that are not tied share two that are tied to each other, or two that are not.
        self.assertEqual(dyeing[0][2], dyeing[0][6])
        self.assert_carried(dyeing, (0, 2), (0, 8), True)
        kinds = [[y for y in range(16) if dyeing[0][y] == 2 and self.is_carried(dyeing, (0, x), (0, y))] for x in (2, 6)]
        self.assertEqual(sorted(len(kind) for kind in kinds), [3, 6])
        for y in kinds[0]:
            for other in kinds[1]:
                self.assert_carried(dyeing, (0, y), (0, other), False)

    def is_carried(self, dyeing, pair, other):
        return carrying_move(dyeing, pair, other) is not None

    def test_where_most_tries_fail_late(self):
        # A plain search would try all moves of the many alike places again for each try with the others.
        eight = samples.single_dyeing(8)
        for k, far in enumerate([samples.way_dyeing(8), samples.hoop_dyeing(8), samples.cube_dyeing(3)]):
            dyeing = beside(eight, far)
            ends = {p[1] for p in moves_of(far) if p[0] == 0}
            for y in range(1, 8):
                self.assert_carried(dyeing, (8, 9), (8, 8 + y), y in ends)
            listing = samples.random_listing(k, 16)
            places = [listing.index(x) for x in (0, 1, 8, 15)]
            mixed = numbered(dyeing, listing)
            self.assert_carried(mixed, (places[0], places[0]), (places[1], places[1]), True)
            self.assert_carried(mixed, (places[0], places[0]), (places[2], places[2]), False)
            self.assert_carried(mixed, (places[2], places[2]), (places[3], places[3]), True)
            self.assert_carried(mixed, (places[0], places[2]), (places[1], places[3]), True)

    def test_a_dyeing_and_its_closing_have_the_same(self):
        for dyeing in (samples.way_dyeing(6), samples.random_dyeing(3, 5, 1), samples.random_dyeing(4, 4, 2)):
            closed = closing(dyeing)
            for pair in pairs(dyeing):
                for other in pairs(dyeing)[::3]:
                    self.assert_carried(closed, pair, other, self.is_carried(dyeing, pair, other))


if __name__ == "__main__":
    unittest.main()
