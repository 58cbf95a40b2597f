"""[12]: `telling_steps`."""

import random
import unittest

from pairdyes.closings import closing, round_row
from pairdyes.errors import TooMany
from pairdyes.steps import is_telling, steps_breach, told_tables
from pairdyes.tellings import telling_steps
from tests import samples
from tests.samples import TWO, WAY, pairs


class TellingStepsTest(unittest.TestCase):
    def assert_told(self, dyeing, closed, pair, other):
        """Checks what is returned for two pairs; returns the number of steps, 0 for None."""
        steps = telling_steps(dyeing, pair, other)
        if closed[pair[0]][pair[1]] == closed[other[0]][other[1]]:
            self.assertIsNone(steps)
            return 0
        self.assertIsNone(steps_breach(dyeing, steps))
        self.assertTrue(1 <= len(steps) <= 1000)
        self.assertIs(is_telling(dyeing, steps, pair, other), True)
        greatest = max(entry for table in told_tables(dyeing, steps) for row in table for entry in row)
        self.assertLessEqual(greatest, 1000000)
        return len(steps)

    def assert_all_told(self, dyeing):
        closed = closing(dyeing)
        for pair in pairs(dyeing):
            for other in pairs(dyeing):
                self.assert_told(dyeing, closed, pair, other)

    def test_by_hand(self):
        self.assertIsNone(telling_steps(((0,),), (0, 0), (0, 0)))
        self.assertIsNone(telling_steps(TWO, (0, 1), (1, 0)))
        self.assertIsNone(telling_steps(WAY, (0, 0), (2, 2)))
        self.assertIsNone(telling_steps(WAY, (0, 1), (2, 1)))
        for pair, other in [((0, 0), (1, 1)), ((0, 1), (1, 0)), ((0, 0), (0, 1)), ((0, 2), (1, 1)), ((0, 1), (0, 2))]:
            self.assertIs(is_telling(WAY, telling_steps(WAY, pair, other), pair, other), True)
            self.assertIs(is_telling(WAY, telling_steps(WAY, other, pair), other, pair), True)

    def test_middle_pairs_and_turned_pairs(self):
        single = samples.single_dyeing(2)
        self.assertIs(is_telling(single, telling_steps(single, (0, 0), (0, 1)), (0, 0), (0, 1)), True)
        self.assertIsNone(telling_steps(single, (0, 0), (1, 1)))
        # The turned pairs of (0, 1) and (0, 2) have unlike dyes, and nothing else tells them apart at first.
        open_ways = ((0, 1, 1), (2, 0, 1), (3, 1, 0))
        self.assert_all_told(open_ways)

    def test_all_dyeings_of_one_and_two_places(self):
        for dyeing in samples.all_dyeings(1) + samples.all_dyeings(2):
            self.assert_all_told(dyeing)

    def test_few_places_all_pairs(self):
        for dyeing in samples.all_dyeings(3)[::611] + [d for d in samples.some_dyeings(4) if d]:
            self.assert_all_told(dyeing)

    def test_equal_pairs(self):
        for n in range(1, 9):
            for dyeing in (samples.random_dyeing(n, n, 3), samples.way_dyeing(n), samples.full_dyeing(n)):
                for pair in pairs(dyeing):
                    self.assertIsNone(telling_steps(dyeing, pair, pair))

    def test_up_to_eight_places(self):
        source = random.Random(1)
        longest = 0
        for n in range(5, 9):
            dyeings = [samples.random_dyeing(n + dyes, n, dyes) for dyes in (1, 2, 3, 4)]
            dyeings += [samples.way_dyeing(n), samples.ring_dyeing(n), samples.hoop_dyeing(n), samples.full_dyeing(n)]
            dyeings += [samples.single_dyeing(n), samples.even_dyeing(n)]
            for dyeing in dyeings:
                closed = closing(dyeing)
                for _ in range(12):
                    pair, other = source.sample(pairs(dyeing), 2)
                    longest = max(longest, self.assert_told(dyeing, closed, pair, other))
        self.assertTrue(100 < longest < 400)

    def test_eight_places_of_three_and_four_dyes(self):
        for dyes in (3, 4):
            dyeing = samples.random_dyeing(dyes, 8, dyes)
            closed = closing(dyeing)
            self.assertEqual(samples.plain_dye_count(closed), 64)
            for pair in pairs(dyeing)[::9]:
                for other in pairs(dyeing)[::5]:
                    self.assert_told(dyeing, closed, pair, other)

    def test_pairs_that_the_dyeing_parts_already(self):
        dyeing = samples.full_dyeing(8)
        for pair, other in zip(pairs(dyeing), pairs(dyeing)[1:]):
            self.assert_told(dyeing, closing(dyeing), pair, other)
        for pair in pairs(WAY):
            for other in pairs(WAY):
                if WAY[pair[0]][pair[1]] != WAY[other[0]][other[1]]:
                    self.assert_told(WAY, closing(WAY), pair, other)

    def test_pairs_that_only_the_last_round_parts(self):
        # A ring of eight places with one more tie: counting finds out late how far a place is from it.
        table = [list(row) for row in samples.tied_dyeing(8, lambda x, y: (x - y) % 8 in (1, 7))]
        table[0][2] = table[2][0] = 1
        for dyeing in (samples.way_dyeing(8), samples.plain_dyed(table)):
            rounds = round_row(dyeing)
            self.assertGreater(len(rounds), 2)
            closed = closing(dyeing)
            early = samples.plain_dyed(
                [[(dyeing[x][y], dyeing[y][x], x == y) for y in range(8)] for x in range(8)]
            )
            told = 0
            for pair in pairs(dyeing):
                for other in pairs(dyeing)[::7]:
                    if early[pair[0]][pair[1]] == early[other[0]][other[1]]:
                        told += self.assert_told(dyeing, closed, pair, other) > 0
            self.assertGreater(told, 50)

    def test_more_than_eight_places_are_too_many(self):
        for n in (9, 10, 16):
            for dyeing in (samples.single_dyeing(n), samples.full_dyeing(n)):
                for pair, other in [((0, 0), (0, 0)), ((0, 0), (0, 1)), ((n - 1, 0), (0, n - 1))]:
                    with self.assertRaises(TooMany) as caught:
                        telling_steps(dyeing, pair, other)
                    self.assertEqual(caught.exception.limit, 8)

    def test_arguments_by_their_names(self):
        steps = telling_steps(dyeing=WAY, pair=(0, 0), other=(1, 1))
        self.assertIs(is_telling(dyeing=WAY, steps=steps, pair=(0, 0), other=(1, 1)), True)
        self.assertIsNone(telling_steps(other=(0, 1), pair=(1, 0), dyeing=TWO))


if __name__ == "__main__":
    unittest.main()
