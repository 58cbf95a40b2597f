"""[10]: `marked`, `place_parts` and `least_base`."""

import unittest
from itertools import combinations

from pairdyes.closings import closing
from pairdyes.dyeings import dye_count, dyeing_breach, pairs_of
from pairdyes.errors import TooMany
from pairdyes.marks import least_base, marked, place_parts
from tests import samples
from tests.samples import THREE, TWO, WAY, pairs


def is_parting(dyeing, places):
    """Whether the places part all pairs."""
    return dye_count(closing(marked(dyeing, places))) == len(dyeing) ** 2


def plain_least_base(dyeing):
    """`least_base` by trying all tuples in their sequence."""
    for many in range(len(dyeing) + 1):
        for places in combinations(range(len(dyeing)), many):
            if is_parting(dyeing, places):
                return places
    raise AssertionError("all places together part all")


class MarkedTest(unittest.TestCase):
    def test_by_hand(self):
        self.assertEqual(marked((), ()), ())
        self.assertEqual(marked(((0,),), ()), ((0,),))
        self.assertEqual(marked(((0,),), (0,)), ((0,),))
        self.assertEqual(marked(TWO, ()), TWO)
        self.assertEqual(marked(TWO, (0,)), ((0, 1), (1, 2)))
        self.assertEqual(marked(TWO, (1,)), ((0, 1), (1, 2)))
        self.assertEqual(marked(TWO, (0, 1)), ((0, 1), (1, 2)))
        self.assertEqual(marked(THREE, (1,)), ((0, 1, 1), (1, 2, 1), (1, 1, 0)))
        self.assertEqual(marked(THREE, (0, 2)), ((0, 1, 1), (1, 2, 1), (1, 1, 3)))
        self.assertEqual(marked(((0, 0), (0, 0)), (0,)), ((0, 1), (1, 1)))
        self.assertEqual(marked(((0, 0), (0, 0)), (1,)), ((0, 0), (0, 1)))
        self.assertEqual(marked(((0, 0), (0, 0)), (0, 1)), ((0, 1), (1, 2)))

    def test_middle_pairs_that_have_dyes_of_their_own_already(self):
        full = samples.full_dyeing(4)
        for many in range(5):
            for places in combinations(range(4), many):
                self.assertEqual(marked(full, places), full)
        own = ((0, 1, 1), (1, 2, 1), (1, 1, 2))
        self.assertEqual(marked(own, (0,)), own)
        self.assertEqual(marked(own, (0, 1)), ((0, 1, 1), (1, 2, 1), (1, 1, 3)))

    def test_just_the_middle_pairs_of_the_places_are_parted_off(self):
        for dyeing in samples.some_dyeings(5):
            n = len(dyeing)
            for places in [(), tuple(range(0, n, 2)), tuple(range(n))]:
                told = marked(dyeing, places)
                self.assertIsNone(dyeing_breach(told))
                others = [(x, y) for x, y in pairs(dyeing) if x != y or x not in places]
                for x in places:
                    self.assertEqual(pairs_of(told, told[x][x]), ((x, x),))
                for x, y in others:
                    for u, v in others:
                        self.assertEqual(told[x][y] == told[u][v], dyeing[x][y] == dyeing[u][v])

    def test_all_of_sixteen_places(self):
        told = marked(samples.single_dyeing(16), tuple(range(16)))
        self.assertEqual(dye_count(told), 17)
        self.assertEqual(told[0][:3] + told[1][:3], (0, 1, 1, 1, 2, 1))
        self.assertEqual(told[15][15], 16)


class PlacePartsTest(unittest.TestCase):
    def test_by_hand(self):
        self.assertEqual(place_parts(()), ())
        self.assertEqual(place_parts(((0,),)), ((0,),))
        self.assertEqual(place_parts(TWO), ((0, 1),))
        self.assertEqual(place_parts(WAY), ((0, 2), (1,)))
        self.assertEqual(place_parts(((0, 1), (2, 2))), ((0,), (1,)))
        self.assertEqual(place_parts(samples.way_dyeing(5)), ((0, 4), (1, 3), (2,)))
        self.assertEqual(place_parts(samples.way_dyeing(16)), tuple((k, 15 - k) for k in range(8)))
        self.assertEqual(place_parts(samples.full_dyeing(16)), tuple((k,) for k in range(16)))
        self.assertEqual(place_parts(samples.ring_dyeing(16)), (tuple(range(16)),))
        self.assertEqual(place_parts(marked(samples.even_dyeing(6), (1, 4))), ((0, 2, 3, 5), (1,), (4,)))

    def test_the_closing_counts_and_not_the_dyeing(self):
        self.assertEqual(place_parts(((0, 1, 1), (1, 0, 2), (1, 2, 0))), ((0,), (1, 2)))

    def test_the_parts_are_the_dyes_of_the_middle_pairs(self):
        for dyeing in samples.some_dyeings(8):
            told = place_parts(dyeing)
            closed = closing(dyeing)
            self.assertEqual(told, tuple(sorted(told)))
            self.assertEqual(sorted(x for part in told for x in part), list(range(len(dyeing))))
            for part in told:
                self.assertEqual(part, tuple(y for y in range(len(dyeing)) if closed[y][y] == closed[part[0]][part[0]]))


class LeastBaseTest(unittest.TestCase):
    def test_by_hand(self):
        self.assertEqual(least_base(()), ())
        self.assertEqual(least_base(((0,),)), ())
        self.assertEqual(least_base(TWO), (0,))
        self.assertEqual(least_base(WAY), (0,))
        self.assertEqual(least_base(((0, 1), (2, 2))), ())
        self.assertEqual(least_base(samples.full_dyeing(8)), ())
        self.assertEqual(least_base(marked(samples.even_dyeing(5), (0, 2))), (1, 3))

    def test_even_dyeings_rings_and_ways_up_to_eight_places(self):
        for n in range(2, 9):
            self.assertEqual(least_base(samples.even_dyeing(n)), tuple(range(n - 1)))
            self.assertEqual(least_base(samples.single_dyeing(n)), tuple(range(n - 1)))
            self.assertEqual(least_base(samples.ring_dyeing(n)), (0,))
            self.assertEqual(least_base(samples.way_dyeing(n)), (0,))

    def test_it_is_the_first_that_parts_all(self):
        for dyeing in samples.some_dyeings(5) + samples.all_dyeings(2):
            self.assertEqual(least_base(dyeing), plain_least_base(dyeing))

    def test_the_middle_of_a_way_does_not_part(self):
        # The places 0, 1 and 3, 4 are changed with the place 2 left where it is, so (2,) would not do here.
        way = samples.way_dyeing(5)
        self.assertFalse(is_parting(way, (2,)))
        listing = (2, 0, 1, 3, 4)
        table = [[way[x][y] for y in listing] for x in listing]
        self.assertEqual(least_base(samples.plain_dyed(table)), (1,))

    def test_nine_places_and_more_are_too_many(self):
        for n in (9, 10, 16):
            for dyeing in (samples.full_dyeing(n), samples.even_dyeing(n)):
                with self.assertRaises(TooMany) as caught:
                    least_base(dyeing)
                self.assertEqual(caught.exception.limit, 8)


if __name__ == "__main__":
    unittest.main()
