"""[44]: all closed dyeings of a few places."""

import time
import unittest
from itertools import permutations, product

from pairdyes.closings import closing, is_closed
from pairdyes.groups import group_dyeing
from pairdyes.lists import closed_dyeings
from pairdyes.numberings import are_alike, least_form
from tests import samples
from tests.samples import TWO


class ListsTest(unittest.TestCase):
    def test_by_hand(self):
        self.assertEqual(closed_dyeings(0), ((),))
        self.assertEqual(closed_dyeings(1), (((0,),),))
        self.assertEqual(closed_dyeings(2), (TWO, ((0, 1), (2, 3))))
        self.assertEqual(
            closed_dyeings(3),
            (
                ((0, 1, 1), (1, 0, 1), (1, 1, 0)), ((0, 1, 1), (2, 3, 4), (2, 4, 3)),
                ((0, 1, 2), (2, 0, 1), (1, 2, 0)), ((0, 1, 2), (3, 4, 5), (6, 7, 8)),
            ),
        )

    def test_how_many_and_in_which_sequence(self):
        begun = time.perf_counter()
        self.assertEqual([len(closed_dyeings(n)) for n in range(5)], [1, 1, 2, 4, 10])
        self.assertLess(time.perf_counter() - begun, 20)
        for n in range(5):
            told = closed_dyeings(n)
            self.assertIs(type(told), tuple)
            self.assertEqual(list(told), sorted(set(told)))
            for dyeing in told:
                self.assertEqual(len(dyeing), n)
                self.assertIsNone(samples.plain_closed_breach(dyeing))
                self.assertEqual(least_form(dyeing), dyeing)

    def test_all_closed_dyeings_of_up_to_three_places(self):
        for n in range(4):
            expected = {least_form(dyeing) for dyeing in samples.all_dyeings(n) if is_closed(dyeing)}
            self.assertEqual(closed_dyeings(n), tuple(sorted(expected)))

    def test_each_drawn_closed_dyeing_is_alike_to_just_one(self):
        told = closed_dyeings(4)
        found = set()
        for seed in range(300):
            drawn = closing(samples.random_dyeing(seed, 4, 1 + seed % 4))
            for wide in (drawn, closing(samples.plain_marked(samples.hoop_dyeing(4), seed % 4)), samples.ring_dyeing(4)):
                alike = [dyeing for dyeing in told if are_alike(dyeing, wide)]
                self.assertEqual(len(alike), 1)
                found.update(alike)
        for bits in product(range(2), repeat=6):
            ties = dict(zip([(x, y) for y in range(4) for x in range(y)], bits))
            drawn = closing(samples.tied_dyeing(4, lambda x, y: ties[min(x, y), max(x, y)]))
            found.update(dyeing for dyeing in told if are_alike(dyeing, drawn))
        self.assertGreater(len(found), 6)

    def test_all_dyeings_of_groups_are_among_them(self):
        listings = list(permutations(range(4)))
        found = {least_form(group_dyeing(4, (one,))) for one in listings} | {least_form(group_dyeing(4, tuple(listings)))}
        found |= {least_form(group_dyeing(4, (one, other))) for one in listings[:8] for other in listings[8:]}
        self.assertLessEqual(found, set(closed_dyeings(4)))
        self.assertEqual(len(found), 10)


if __name__ == "__main__":
    unittest.main()
