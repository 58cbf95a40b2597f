"""[7], [8] and [9]: closed dyeings, rounds and closings."""

import unittest

from pairdyes.closings import begun, closed_breach, closing, is_closed, next_round, round_row
from pairdyes.dyeings import dye_count, dyeing_breach
from pairdyes.numberings import numbered, turned
from pairdyes.orders import is_within, joined, met
from tests import samples
from tests.samples import THREE, TWO, WAY, between_count, pairs, plain_closed_breach

# Two lots of two and one place; all is as a count of lots tells.
LOTS = ((0, 1, 2), (1, 0, 2), (3, 3, 4))


def plain_begun(dyeing):
    """`begun` by the dyes of the pairs and of the turned pairs."""
    n = len(dyeing)
    return samples.plain_dyed([[(dyeing[x][y], dyeing[y][x], x == y) for y in range(n)] for x in range(n)])


def plain_round(dyeing):
    """`next_round` by the counts for all dyes I and J."""
    n = len(dyeing)
    r = samples.plain_dye_count(dyeing)
    return samples.plain_dyed([
        [
            (dyeing[x][y], [between_count(dyeing, i, j, x, y) for i in range(r) for j in range(r)])
            for y in range(n)
        ]
        for x in range(n)
    ])


def plain_rounds(dyeing):
    """All dyeings from `begun` on up to the closing."""
    rounds = [plain_begun(dyeing)]
    while True:
        later = plain_round(rounds[-1])
        if later == rounds[-1]:
            return rounds
        rounds.append(later)


def mixed_dyeings():
    """Dyeings of up to 5 places, closed and not."""
    found = samples.some_dyeings(5) + samples.all_dyeings(2) + samples.all_dyeings(3)[::131]
    return found + [closing(dyeing) for dyeing in samples.some_dyeings(5)]


class BreachTest(unittest.TestCase):
    def test_closed_dyeings(self):
        closed = [(), ((0,),), TWO, THREE, LOTS, ((0, 1), (2, 3)), ((0, 1, 2), (2, 0, 1), (1, 2, 0))]
        closed += [samples.ring_dyeing(n) for n in range(17)]
        closed += [samples.even_dyeing(n) for n in range(17)]
        closed += [samples.full_dyeing(n) for n in range(17)]
        for dyeing in closed:
            self.assertIsNone(closed_breach(dyeing))
            self.assertIs(is_closed(dyeing), True)

    def test_breaches_by_hand(self):
        broken = [
            (((0, 0), (0, 0)), ("middle", 0)),
            (((0, 1), (1, 1)), ("middle", 1)),
            (((0, 1, 2), (2, 3, 4), (1, 4, 2)), ("middle", 2)),
            (((0, 1, 0), (1, 2, 2), (0, 2, 2)), ("middle", 0)),
            (((0, 1, 1), (1, 0, 2), (3, 2, 0)), ("turned", 1)),
            (((0, 1, 2), (3, 0, 4), (2, 2, 0)), ("turned", 2)),
            (((0, 1, 1), (1, 0, 2), (3, 3, 0)), ("turned", 1)),
            (WAY, ("count", 1, 1, 0)),
            (((0, 1), (1, 2)), ("count", 0, 1, 1)),
            (((0, 1, 1), (1, 2, 1), (1, 1, 2)), ("count", 0, 1, 1)),
        ]
        for dyeing, breach in broken:
            with self.subTest(dyeing=dyeing):
                self.assertEqual(closed_breach(dyeing), breach)
                self.assertIs(is_closed(dyeing), False)
                self.assertEqual(plain_closed_breach(dyeing), breach)

    def test_which_comes_first(self):
        # The dye 2 is mixed, and the dyes 1 and 3 are turned into unlike ones.
        self.assertEqual(closed_breach(((0, 1, 2), (1, 2, 3), (3, 3, 0))), ("middle", 2))
        # The dye 3 is turned into unlike ones, and already the counts for the dye 0 are uneven.
        self.assertEqual(closed_breach(((0, 1, 2), (1, 0, 3), (3, 4, 0))), ("turned", 3))

    def test_the_least_breach_by_counting(self):
        words = []
        for dyeing in mixed_dyeings():
            expected = plain_closed_breach(dyeing)
            self.assertEqual(closed_breach(dyeing), expected)
            self.assertIs(is_closed(dyeing), expected is None)
            words.append(None if expected is None else expected[0])
        self.assertEqual({*words}, {None, "middle", "turned", "count"})

    def test_the_least_triple_by_counting(self):
        counted = set()
        for n in (4, 5, 6):
            for seed in range(8):
                way = numbered(samples.way_dyeing(n), samples.random_listing(seed, n))
                for dyeing in plain_rounds(way) + plain_rounds(samples.random_dyeing(seed, n, 2)):
                    expected = plain_closed_breach(dyeing)
                    self.assertEqual(closed_breach(dyeing), expected)
                    counted.add(expected)
        self.assertIn(None, counted)
        self.assertGreater(len(counted), 8)

    def test_sixteen_places(self):
        self.assertEqual(closed_breach(samples.way_dyeing(16)), ("count", 1, 1, 0))
        self.assertEqual(closed_breach(samples.single_dyeing(16)), ("middle", 0))
        self.assertEqual(closed_breach(plain_begun(samples.random_dyeing(2, 16, 2)))[0], "count")


class RoundsTest(unittest.TestCase):
    def test_begun_by_hand(self):
        self.assertEqual(begun(()), ())
        self.assertEqual(begun(((0,),)), ((0,),))
        self.assertEqual(begun(((0, 0), (0, 0))), TWO)
        self.assertEqual(begun(((0, 1), (2, 0))), ((0, 1), (2, 0)))
        self.assertEqual(begun(((0, 0, 1), (1, 0, 0), (1, 0, 0))), ((0, 1, 2), (3, 0, 4), (2, 4, 0)))
        self.assertEqual(begun(((0, 0), (1, 1))), ((0, 1), (2, 3)))

    def test_next_round_by_hand(self):
        self.assertEqual(next_round(()), ())
        self.assertEqual(next_round(((0,),)), ((0,),))
        self.assertEqual(next_round(TWO), TWO)
        self.assertEqual(next_round(WAY), ((0, 1, 2), (3, 4, 3), (2, 1, 0)))
        # Also for a dyeing that is not begun: the round neither turns pairs nor parts the middle pairs off.
        self.assertEqual(next_round(((0, 0), (0, 0))), ((0, 0), (0, 0)))
        self.assertEqual(next_round(((0, 0), (1, 1))), ((0, 0), (1, 1)))
        self.assertEqual(next_round(((0, 1), (1, 1))), ((0, 1), (2, 3)))

    def test_begun_and_next_round_by_counting(self):
        for dyeing in mixed_dyeings():
            self.assertEqual(begun(dyeing), plain_begun(dyeing))
            self.assertEqual(next_round(dyeing), plain_round(dyeing))

    def test_closing_and_round_row_by_hand(self):
        self.assertEqual(closing(()), ())
        self.assertEqual(round_row(()), (0,))
        self.assertEqual(closing(((0,),)), ((0,),))
        self.assertEqual(round_row(((0,),)), (1,))
        self.assertEqual(closing(((0, 0), (0, 0))), TWO)
        self.assertEqual(round_row(((0, 0), (0, 0))), (2,))
        self.assertEqual(closing(WAY), ((0, 1, 2), (3, 4, 3), (2, 1, 0)))
        self.assertEqual(round_row(WAY), (3, 5))
        self.assertEqual(closing(((0, 1), (1, 1))), ((0, 1), (2, 3)))
        self.assertEqual(round_row(((0, 1), (1, 1))), (3, 4))

    def test_closing_and_round_row_by_counting(self):
        for dyeing in mixed_dyeings():
            rounds = plain_rounds(dyeing)
            self.assertEqual(closing(dyeing), rounds[-1])
            row = tuple(samples.plain_dye_count(told) for told in rounds)
            self.assertEqual(round_row(dyeing), row)
            self.assertEqual(row, tuple(sorted(set(row))))
            self.assertEqual(row[-1], dye_count(closing(dyeing)))

    def test_up_to_sixteen_places(self):
        for n in (8, 13, 16):
            self.assertEqual(closing(samples.single_dyeing(n)), samples.even_dyeing(n))
            self.assertEqual(round_row(samples.single_dyeing(n)), (2,))
            self.assertEqual(closing(samples.full_dyeing(n)), samples.full_dyeing(n))
            self.assertEqual(round_row(samples.full_dyeing(n)), (n * n,))
        way = closing(samples.way_dyeing(16))
        expected = samples.plain_dyed(
            [[min((x, y), (15 - x, 15 - y)) for y in range(16)] for x in range(16)]
        )
        self.assertEqual(way, expected)
        self.assertEqual(round_row(samples.way_dyeing(16)), (3, 12, 48, 128))
        self.assertIsNone(dyeing_breach(way))
        self.assertIsNone(closed_breach(closing(samples.random_dyeing(4, 16, 2))))

    def test_several_rounds_by_counting(self):
        for n in (6, 7, 8):
            way = samples.way_dyeing(n)
            self.assertEqual(closing(way), plain_rounds(way)[-1])


class FactsTest(unittest.TestCase):
    def test_the_closing_is_closed_and_within(self):
        for dyeing in mixed_dyeings() + samples.some_dyeings(8):
            told = closing(dyeing)
            self.assertIs(is_closed(told), True)
            self.assertTrue(is_within(told, dyeing))
            self.assertEqual(closing(told), told)

    def test_the_closing_is_the_coarsest(self):
        every = samples.all_dyeings(3)
        closed = [dyeing for dyeing in every if plain_closed_breach(dyeing) is None]
        self.assertGreater(len(closed), 4)
        for dyeing in every[::41] + closed:
            told = closing(dyeing)
            self.assertIn(told, closed)
            for other in closed:
                if samples.plain_within(other, dyeing):
                    self.assertTrue(samples.plain_within(other, told))

    def test_closed_dyeings_are_their_own_closings(self):
        for dyeing in [(), ((0,),), TWO, THREE, LOTS] + [samples.ring_dyeing(n) for n in range(17)]:
            self.assertEqual(closing(dyeing), dyeing)
            self.assertEqual(round_row(dyeing), (dye_count(dyeing),))

    def test_closings_of_finer_dyeings_are_finer(self):
        for n in (3, 4, 5):
            same = [dyeing for dyeing in samples.some_dyeings(5) if len(dyeing) == n]
            for one in same:
                for other in same:
                    self.assertTrue(is_within(closing(met(one, other)), closing(one)))
                    self.assertTrue(is_within(closing(one), closing(joined(one, other))))

    def test_numbered_and_turned(self):
        for dyeing in mixed_dyeings() + [samples.way_dyeing(16), samples.random_dyeing(1, 16, 2)]:
            listing = samples.random_listing(len(dyeing), len(dyeing))
            self.assertEqual(closing(numbered(dyeing, listing)), numbered(closing(dyeing), listing))
            self.assertEqual(closing(turned(dyeing)), closing(dyeing))

    def test_joined_closed_dyeings_are_closed(self):
        closed = [dyeing for dyeing in samples.all_dyeings(3) if is_closed(dyeing)]
        met_is_open = False
        for n in (4, 5, 6):
            closed += [numbered(samples.ring_dyeing(n), samples.random_listing(seed, n)) for seed in range(6)]
        for one in closed:
            for other in closed:
                if len(one) == len(other):
                    self.assertIs(is_closed(joined(one, other)), True)
                    met_is_open = met_is_open or not is_closed(met(one, other))
        self.assertTrue(met_is_open)


if __name__ == "__main__":
    unittest.main()
