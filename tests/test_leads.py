"""[15]: leads from one dyeing to another one."""

import unittest
from itertools import permutations

from pairdyes.closings import closing
from pairdyes.errors import TooMany
from pairdyes.leads import leads
from pairdyes.moves import moves_of
from pairdyes.numberings import numbered
from tests import samples
from tests.samples import THREE, TWO, WAY, plain_numbered


def plain_leads(one, other):
    """All leads by trying all listings."""
    return tuple(p for p in permutations(range(len(other))) if plain_numbered(other, p) == one)


class LeadsTest(unittest.TestCase):
    def test_by_hand(self):
        self.assertEqual(leads((), ()), ((),))
        self.assertEqual(leads(((0,),), ((0,),)), ((0,),))
        self.assertEqual(leads(TWO, TWO), ((0, 1), (1, 0)))
        self.assertEqual(leads(((0, 0), (0, 1)), ((0, 1), (1, 1))), ((1, 0),))
        self.assertEqual(leads(WAY, THREE), ())
        self.assertEqual(leads(((0, 1, 1), (1, 0, 2), (1, 2, 0)), WAY), ((1, 0, 2), (1, 2, 0)))
        self.assertEqual(leads(WAY, ((0, 1, 1), (1, 0, 2), (1, 2, 0))), ((1, 0, 2), (2, 0, 1)))

    def test_dyes_may_change_their_numbers(self):
        ring = samples.ring_dyeing(3)
        self.assertEqual(leads(ring, ring), tuple(permutations(range(3))))
        self.assertEqual(len(leads(samples.ring_dyeing(5), samples.ring_dyeing(5))), 20)
        self.assertEqual(len(leads(samples.full_dyeing(4), samples.full_dyeing(4))), 24)

    def test_all_two_dyeings_of_two_places(self):
        for one in samples.all_dyeings(2):
            for other in samples.all_dyeings(2):
                self.assertEqual(leads(one, other), plain_leads(one, other))

    def test_against_all_listings(self):
        same = samples.some_dyeings(5)
        for one in same:
            for other in [other for other in same if len(other) == len(one)]:
                self.assertEqual(leads(one, other), plain_leads(one, other))
        for one in samples.all_dyeings(3)[::1511]:
            for other in samples.all_dyeings(3)[::1999] + [numbered(one, (2, 0, 1))]:
                self.assertEqual(leads(one, other), plain_leads(one, other))

    def test_six_and_seven_places(self):
        for n in (6, 7):
            for dyeing in (samples.random_dyeing(n, n, 2), samples.ring_dyeing(n), samples.hoop_dyeing(n)):
                listing = samples.random_listing(n, n)
                one = numbered(dyeing, listing)
                told = leads(one, dyeing)
                self.assertIn(listing, told)
                self.assertEqual(told, plain_leads(one, dyeing))
        self.assertEqual(leads(samples.even_dyeing(7), samples.even_dyeing(7)), tuple(permutations(range(7))))
        self.assertEqual(leads(samples.even_dyeing(7), samples.ring_dyeing(7)), ())

    def test_unlike_numbers_of_places(self):
        for one in range(8):
            for other in range(8):
                if one != other:
                    self.assertEqual(leads(samples.single_dyeing(one), samples.single_dyeing(other)), ())

    def test_more_than_seven_places_in_either_one(self):
        for one, other in [(8, 8), (8, 7), (7, 8), (0, 8), (8, 0), (16, 16), (16, 1), (2, 9)]:
            with self.assertRaises(TooMany) as caught:
                leads(samples.even_dyeing(one), samples.even_dyeing(other))
            self.assertEqual(caught.exception.limit, 7)


class FactsTest(unittest.TestCase):
    def test_moves_are_leads_and_the_numbers_are_multiples(self):
        for dyeing in samples.some_dyeings(6):
            told = leads(dyeing, dyeing)
            moves = moves_of(dyeing)
            self.assertLessEqual(set(moves), set(told))
            self.assertEqual(len(told) % len(moves), 0)

    def test_leads_are_leads_of_the_closings(self):
        for dyeing in samples.some_dyeings(5) + samples.all_dyeings(3)[::811]:
            n = len(dyeing)
            other = numbered(dyeing, samples.random_listing(n + 1, n))
            told = leads(dyeing, other)
            self.assertGreater(len(told), 0)
            self.assertLessEqual(set(told), set(leads(closing(dyeing), closing(other))))


if __name__ == "__main__":
    unittest.main()
