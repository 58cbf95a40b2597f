"""[4]: `turned`, `numbered`, `least_form` and `are_alike`."""

import unittest
from itertools import permutations

from pairdyes.errors import TooMany
from pairdyes.numberings import are_alike, least_form, numbered, turned
from tests import samples
from tests.samples import THREE, TWO, WAY


def plain_numbered(dyeing, listing):
    """`numbered` pair by pair."""
    n = len(dyeing)
    return samples.plain_dyed([[dyeing[listing[i]][listing[j]] for j in range(n)] for i in range(n)])


def plain_least_form(dyeing):
    """`least_form` by all listings."""
    return min(plain_numbered(dyeing, listing) for listing in permutations(range(len(dyeing))))


class TurnedTest(unittest.TestCase):
    def test_by_hand(self):
        self.assertEqual(turned(()), ())
        self.assertEqual(turned(((0,),)), ((0,),))
        self.assertEqual(turned(WAY), WAY)
        self.assertEqual(turned(((0, 1), (2, 3))), ((0, 1), (2, 3)))
        self.assertEqual(turned(((0, 0), (1, 1))), ((0, 1), (0, 1)))
        self.assertEqual(turned(((0, 1, 1), (2, 0, 1), (2, 2, 0))), ((0, 1, 1), (2, 0, 1), (2, 2, 0)))
        self.assertEqual(turned(((0, 1, 2), (0, 1, 2), (0, 1, 2))), ((0, 0, 0), (1, 1, 1), (2, 2, 2)))

    def test_each_pair_has_the_dye_of_its_turned_pair(self):
        for dyeing in samples.some_dyeings(8) + [samples.random_dyeing(5, 16, 9)]:
            n = len(dyeing)
            expected = samples.plain_dyed([[dyeing[y][x] for y in range(n)] for x in range(n)])
            self.assertEqual(turned(dyeing), expected)
            self.assertEqual(turned(turned(dyeing)), dyeing)


class NumberedTest(unittest.TestCase):
    def test_by_hand(self):
        self.assertEqual(numbered((), ()), ())
        self.assertEqual(numbered(((0,),), (0,)), ((0,),))
        self.assertEqual(numbered(WAY, (0, 1, 2)), WAY)
        self.assertEqual(numbered(WAY, (2, 1, 0)), WAY)
        self.assertEqual(numbered(WAY, (1, 0, 2)), ((0, 1, 1), (1, 0, 2), (1, 2, 0)))
        self.assertEqual(numbered(((0, 0, 1), (2, 3, 3), (3, 3, 3)), (1, 2, 0)), ((0, 0, 1), (0, 0, 0), (2, 3, 2)))

    def test_the_listing_is_not_taken_the_other_way_round(self):
        dyeing = ((0, 1, 2), (3, 4, 5), (6, 7, 7))
        # The pair (i, j) has the dye of the places 1, 2, 0 at i and j, so the two equal dyes meet at (1, 1), (1, 0).
        self.assertEqual(numbered(dyeing, (1, 2, 0)), ((0, 1, 2), (3, 3, 4), (5, 6, 7)))

    def test_listings_one_after_another(self):
        for n in (1, 2, 3, 5, 7, 16):
            dyeing = samples.random_dyeing(n, n, 4)
            first = samples.random_listing(2 * n, n)
            second = samples.random_listing(2 * n + 1, n)
            self.assertEqual(numbered(dyeing, first), plain_numbered(dyeing, first))
            both = tuple(first[k] for k in second)
            self.assertEqual(numbered(numbered(dyeing, first), second), numbered(dyeing, both))


class LeastFormTest(unittest.TestCase):
    def test_by_hand(self):
        self.assertEqual(least_form(()), ())
        self.assertEqual(least_form(((0,),)), ((0,),))
        self.assertEqual(least_form(TWO), TWO)
        self.assertEqual(least_form(((0, 1), (1, 1))), ((0, 0), (0, 1)))
        self.assertEqual(least_form(WAY), ((0, 1, 1), (1, 0, 2), (1, 2, 0)))
        self.assertEqual(least_form(((0, 1), (2, 2))), ((0, 0), (1, 2)))

    def test_it_is_the_least_of_all_numberings(self):
        for dyeing in samples.some_dyeings(5) + samples.all_dyeings(2) + samples.all_dyeings(3)[::97]:
            self.assertEqual(least_form(dyeing), plain_least_form(dyeing))

    def test_all_numberings_have_the_same(self):
        for n in (6, 7):
            for seed in range(3):
                dyeing = samples.random_dyeing(seed, n, 2)
                told = least_form(dyeing)
                self.assertLessEqual(told, dyeing)
                self.assertEqual(least_form(told), told)
                self.assertEqual(least_form(numbered(dyeing, samples.random_listing(seed, n))), told)

    def test_seven_places_are_let_and_eight_are_too_many(self):
        self.assertEqual(least_form(samples.full_dyeing(7)), samples.full_dyeing(7))
        self.assertEqual(least_form(samples.even_dyeing(7)), samples.even_dyeing(7))
        for n in (8, 9, 16):
            with self.assertRaises(TooMany) as caught:
                least_form(samples.full_dyeing(n))
            self.assertEqual(caught.exception.limit, 7)


class AlikeTest(unittest.TestCase):
    def test_by_hand(self):
        self.assertIs(are_alike((), ()), True)
        self.assertIs(are_alike(WAY, ((0, 1, 1), (1, 0, 2), (1, 2, 0))), True)
        self.assertIs(are_alike(WAY, THREE), False)
        self.assertIs(are_alike(((0, 1), (1, 1)), ((0, 0), (0, 1))), True)
        self.assertIs(are_alike(((0, 0), (1, 1)), ((0, 1), (0, 1))), False)

    def test_for_all_dyeings_of_two_places(self):
        every = samples.all_dyeings(2)
        for one in every:
            for other in every:
                expected = any(plain_numbered(one, listing) == other for listing in permutations(range(2)))
                self.assertIs(are_alike(one, other), expected)

    def test_numberings_are_alike(self):
        for n in range(8):
            dyeing = samples.random_dyeing(n, n, 3)
            self.assertIs(are_alike(dyeing, numbered(dyeing, samples.random_listing(n, n))), True)

    def test_rings_and_ways_are_not_alike(self):
        for n in (4, 5, 6, 7):
            self.assertIs(are_alike(samples.ring_dyeing(n), samples.way_dyeing(n)), False)

    def test_unlike_numbers_of_places(self):
        for n in range(7):
            self.assertIs(are_alike(samples.even_dyeing(n), samples.even_dyeing(n + 1)), False)
            self.assertIs(are_alike(samples.single_dyeing(7), samples.single_dyeing(n)), False)
            self.assertIs(are_alike((), samples.single_dyeing(n + 1)), False)

    def test_more_than_seven_places_in_either_argument(self):
        for one, other in [(8, 8), (8, 7), (7, 8), (0, 8), (16, 0), (9, 16)]:
            with self.assertRaises(TooMany) as caught:
                are_alike(samples.even_dyeing(one), samples.even_dyeing(other))
            self.assertEqual(caught.exception.limit, 7)


if __name__ == "__main__":
    unittest.main()
