"""[25] to [28]: dyeings put together and taken apart."""

import unittest
from itertools import product

from pairdyes.closings import closing, is_closed
from pairdyes.dyeings import dyeing_breach
from pairdyes.errors import NotEven, TooMany
from pairdyes.leads import leads
from pairdyes.moves import is_move, move_count
from pairdyes.numberings import numbered
from pairdyes.products import nested, power, side_by_side, taken_apart, woven
from pairdyes.rooms import in_room, is_even, room_sets, rooms
from pairdyes.sheets import degree, sheet_of
from tests import samples
from tests.samples import THREE, TWO, WAY

ONE = ((0,),)
LOTS = ((0, 1, 2), (1, 0, 2), (3, 3, 4))
OPEN = ((0, 0, 1), (2, 3, 3), (1, 3, 0))
FEW = [(), ONE, TWO, WAY, THREE, LOTS, OPEN, ((0, 0), (0, 0)), ((0, 1), (2, 2)), samples.ring_dyeing(4)]
PUT = [side_by_side, woven, nested]


def plain_side_by_side(one, other):
    """`side_by_side` by looking at all two pairs of places."""
    places = [(one, x) for x in range(len(one))] + [(other, y) for y in range(len(other))]
    n = len(places)

    def is_in_one(at):
        return at < len(one)

    def are_one(pair, far):
        sides = [is_in_one(at) for at in pair]
        if sides != [is_in_one(at) for at in far]:
            return False
        (dyeing, x), (second, y) = [places[at] for at in pair]
        (_, u), (_, v) = [places[at] for at in far]
        if sides[0] == sides[1]:
            return dyeing[x][y] == dyeing[u][v]
        return dyeing[x][x] == dyeing[u][u] and second[y][y] == second[v][v]

    return by_comparing(n, are_one)


def by_comparing(n, are_one):
    """The dyeing of n places in which each pair has the dye of the first pair that it is one with."""
    ahead = []
    table = [[0] * n for _ in range(n)]
    for x in range(n):
        for y in range(n):
            found = [at for at, pair in enumerate(ahead) if are_one(pair, (x, y))]
            if not found:
                found = [len(ahead)]
                ahead.append((x, y))
            table[x][y] = found[0]
    return tuple(map(tuple, table))


def plain_woven(one, other):
    """`woven` by looking at all two pairs of places."""
    m = len(other)

    def are_one(pair, far):
        (x, y), (u, v) = pair, far
        return (
            one[x // m][y // m] == one[u // m][v // m] and other[x % m][y % m] == other[u % m][v % m]
        )

    return by_comparing(len(one) * m, are_one)


def plain_nested(one, other):
    """`nested` by looking at all two pairs of places."""
    m = len(other)

    def are_one(pair, far):
        (x, y), (u, v) = pair, far
        if (x // m == y // m) != (u // m == v // m):
            return False
        if x // m == y // m:
            return other[x % m][y % m] == other[u % m][v % m]
        return one[x // m][y // m] == one[u // m][v // m]

    return by_comparing(len(one) * m, are_one)


def plain_power(dyeing, k):
    """`power` by the dyes at all entries."""
    rows = list(product(range(len(dyeing)), repeat=k))
    return samples.plain_dyed([[sorted(dyeing[x][y] for x, y in zip(row, far)) for far in rows] for row in rows])


def is_parted(dyeing):
    """Whether no dye has a middle pair and another pair."""
    middles = {row[x] for x, row in enumerate(dyeing)}
    return not any(dye in middles for x, row in enumerate(dyeing) for y, dye in enumerate(row) if x != y)


class ByHandTest(unittest.TestCase):
    def test_side_by_side(self):
        self.assertEqual(side_by_side((), ()), ())
        self.assertEqual(side_by_side(ONE, ()), ONE)
        self.assertEqual(side_by_side((), WAY), WAY)
        self.assertEqual(side_by_side(ONE, ONE), ((0, 1), (2, 3)))
        self.assertEqual(side_by_side(TWO, ONE), ((0, 1, 2), (1, 0, 2), (3, 3, 4)))
        self.assertEqual(side_by_side(ONE, TWO), ((0, 1, 1), (2, 3, 4), (2, 4, 3)))
        # Across, the middle pairs of both places count.
        self.assertEqual(side_by_side(ONE, ((0, 1), (1, 2))), ((0, 1, 2), (3, 4, 5), (6, 5, 7)))
        self.assertEqual(
            side_by_side(((0, 0), (1, 2)), ONE), ((0, 0, 1), (2, 3, 4), (5, 6, 7)),
        )

    def test_woven(self):
        self.assertEqual(woven((), WAY), ())
        self.assertEqual(woven(WAY, ()), ())
        self.assertEqual(woven(ONE, WAY), WAY)
        self.assertEqual(woven(WAY, ONE), WAY)
        self.assertEqual(woven(TWO, TWO), samples.xor_dyeing(2))
        self.assertEqual(woven(TWO, ((0, 1), (2, 3))), ((0, 1, 2, 3), (4, 5, 6, 7), (2, 3, 0, 1), (6, 7, 4, 5)))
        self.assertEqual(woven(((0, 1), (2, 3)), TWO), ((0, 1, 2, 3), (1, 0, 3, 2), (4, 5, 6, 7), (5, 4, 7, 6)))

    def test_nested(self):
        self.assertEqual(nested((), WAY), ())
        self.assertEqual(nested(WAY, ()), ())
        self.assertEqual(nested(ONE, WAY), WAY)
        self.assertEqual(nested(TWO, ONE), TWO)
        self.assertEqual(nested(TWO, TWO), samples.blocks_dyeing(4, 2))
        self.assertEqual(nested(THREE, TWO), samples.blocks_dyeing(6, 2))
        self.assertEqual(nested(samples.ring_dyeing(3), TWO)[0], (0, 1, 2, 2, 3, 3))
        # The middle dyes of the first one do not count.
        self.assertEqual(nested(((0, 1), (1, 2)), ONE), ((0, 1), (1, 0)))
        # Pairs with like and with unlike first parts have unlike dyes, whatever their dyes are.
        self.assertEqual(nested(((0, 0), (0, 0)), ((0, 0), (0, 0))), ((0, 0, 1, 1), (0, 0, 1, 1), (1, 1, 0, 0), (1, 1, 0, 0)))

    def test_power(self):
        self.assertEqual(power(TWO, 1), TWO)
        self.assertEqual(power(TWO, 2), ((0, 1, 1, 2), (1, 0, 2, 1), (1, 2, 0, 1), (2, 1, 1, 0)))
        self.assertEqual(power(WAY, 1), WAY)
        self.assertEqual(power(((0, 1), (2, 3)), 2), ((0, 1, 1, 2), (3, 4, 5, 6), (3, 5, 4, 6), (7, 8, 8, 9)))
        for k in range(1, 5):
            self.assertEqual(power((), k), ())
            self.assertEqual(power(ONE, k), ONE)
            self.assertEqual(power(TWO, k), samples.cube_dyeing(k))


class ByLookingTest(unittest.TestCase):
    def test_all_two_of_a_few(self):
        for one in FEW:
            for other in FEW:
                self.assertEqual(side_by_side(one, other), plain_side_by_side(one, other))
                self.assertEqual(woven(one, other), plain_woven(one, other))
                self.assertEqual(nested(one, other), plain_nested(one, other))
                for put in PUT:
                    self.assertIsNone(dyeing_breach(put(one, other)))

    def test_just_sixteen_places(self):
        for n, m in [(1, 15), (8, 8), (13, 3), (16, 0)]:
            one, other = samples.random_dyeing(n, n, 3), samples.random_dyeing(m, m, 3)
            self.assertEqual(side_by_side(one, other), plain_side_by_side(one, other))
            self.assertEqual(side_by_side(other, one), plain_side_by_side(other, one))
        for n, m in [(1, 16), (2, 8), (4, 4), (16, 1), (3, 5)]:
            one, other = samples.random_dyeing(n, n, 3), samples.random_dyeing(m, m, 3)
            self.assertEqual(woven(one, other), plain_woven(one, other))
            self.assertEqual(nested(one, other), plain_nested(one, other))

    def test_powers(self):
        for n, k in [(2, 1), (2, 2), (2, 3), (2, 4), (3, 2), (4, 2), (5, 1), (16, 1), (1, 4), (0, 2)]:
            for dyes in (1, 2, 4, 9):
                dyeing = samples.random_dyeing(n + dyes, n, dyes)
                told = power(dyeing, k)
                self.assertEqual(told, plain_power(dyeing, k))
                self.assertIsNone(dyeing_breach(told))


class TooManyTest(unittest.TestCase):
    def assert_too_many(self, function, *arguments):
        with self.assertRaises(TooMany) as caught:
            function(*arguments)
        self.assertEqual(caught.exception.limit, 16)

    def test_side_by_side(self):
        for n, m in [(16, 1), (1, 16), (9, 8), (16, 16)]:
            self.assert_too_many(side_by_side, samples.even_dyeing(n), samples.way_dyeing(m))

    def test_woven_and_nested(self):
        for n, m in [(9, 2), (2, 9), (5, 4), (4, 5), (16, 2), (16, 16)]:
            self.assert_too_many(woven, samples.even_dyeing(n), samples.way_dyeing(m))
            self.assert_too_many(nested, samples.even_dyeing(n), samples.way_dyeing(m))

    def test_the_empty_dyeing_makes_the_answer_small(self):
        for put in (woven, nested):
            self.assertEqual(put((), samples.full_dyeing(16)), ())
            self.assertEqual(put(samples.full_dyeing(16), ()), ())
        self.assertEqual(side_by_side(samples.full_dyeing(16), ()), samples.full_dyeing(16))
        self.assertEqual(side_by_side((), samples.full_dyeing(16)), samples.full_dyeing(16))

    def test_power(self):
        for n, k in [(5, 2), (3, 3), (4, 3), (3, 4), (16, 2), (16, 3), (16, 4)]:
            self.assert_too_many(power, samples.way_dyeing(n), k)
        self.assertEqual(len(power(samples.way_dyeing(4), 2)), 16)
        self.assertEqual(len(power(samples.way_dyeing(2), 4)), 16)


class FactsTest(unittest.TestCase):
    def test_any_grouping_of_three(self):
        for one in FEW[:6]:
            for other in FEW[:7]:
                for third in FEW[1:6]:
                    if len(one) * len(other) * len(third) <= 16:
                        for put in PUT:
                            self.assertEqual(put(put(one, other), third), put(one, put(other, third)))

    def test_closings_side_by_side(self):
        for one in FEW + [samples.way_dyeing(5)]:
            for other in FEW:
                told = side_by_side(one, other)
                self.assertEqual(closing(told), side_by_side(closing(one), closing(other)))
                self.assertIs(is_closed(told), is_closed(one) and is_closed(other))
                self.assertEqual(move_count(told), move_count(one) * move_count(other))

    def test_closings_of_woven(self):
        parted = 0
        for one in FEW + [samples.way_dyeing(4)]:
            for other in FEW:
                told = woven(one, other)
                if one and other:
                    self.assertIs(is_closed(told), is_closed(one) and is_closed(other))
                    if is_parted(one) and is_parted(other):
                        parted += 1
                        self.assertEqual(closing(told), woven(closing(one), closing(other)))
                        self.assertEqual(move_count(told), move_count(one) * move_count(other))
        self.assertGreater(parted, 20)

    def test_nested_even_dyeings(self):
        even = [dyeing for dyeing in samples.even_dyeings() if len(dyeing) <= 8]
        for one in even:
            for other in even:
                if len(one) * len(other) <= 16:
                    told = nested(one, other)
                    self.assertIs(is_even(told), True)
                    self.assertEqual(move_count(told), move_count(one) * move_count(other) ** len(one))
                    self.assertIs(is_even(woven(one, other)), True)

    def test_powers_are_closed_and_have_moves(self):
        for dyeing, k in [(TWO, 4), (THREE, 2), (LOTS, 2), (samples.ring_dyeing(4), 2), (WAY, 2), (TWO, 3)]:
            told = power(dyeing, k)
            if is_closed(dyeing):
                self.assertIs(is_closed(told), True)
            rows = list(product(range(len(dyeing)), repeat=k))
            move = {LOTS: (1, 0, 2), WAY: (2, 1, 0)}.get(dyeing, tuple(range(1, len(dyeing))) + (0,))
            self.assertIs(is_move(dyeing, move), True)
            at_first = tuple(rows.index((move[row[0]],) + row[1:]) for row in rows)
            exchanged = tuple(rows.index((row[-1],) + row[1:-1] + (row[0],)) for row in rows)
            self.assertIs(is_move(told, at_first), True)
            self.assertIs(is_move(told, exchanged), True)


class TakenApartTest(unittest.TestCase):
    def plain_taken_apart(self, dyeing):
        """`taken_apart` word by word."""
        middles, turns, counts = sheet_of(dyeing)
        dyes = range(len(turns))
        found = []
        for one in room_sets(dyeing):
            for other in room_sets(dyeing):
                is_let = one < other and len(one) >= 2 and len(other) >= 2 and set(one) & set(other) == {0}
                if is_let and len(rooms(dyeing, one)[0]) * len(rooms(dyeing, other)[0]) == len(dyeing):
                    if all(self.is_met_once(counts, dyes, i, j) for i in one for j in other):
                        found.append((one, other))
        return tuple(sorted(found))

    def is_met_once(self, counts, dyes, i, j):
        return any(
            counts[k][i][j] == counts[k][j][i] == 1
            and all(counts[m][i][j] == counts[m][j][i] == 0 for m in dyes if m != k)
            for k in dyes
        )

    def test_by_hand(self):
        self.assertEqual(taken_apart(ONE), ())
        self.assertEqual(taken_apart(TWO), ())
        self.assertEqual(taken_apart(samples.ring_dyeing(4)), ())
        self.assertEqual(taken_apart(samples.ring_dyeing(6)), (((0, 2, 4), (0, 3)),))
        self.assertEqual(taken_apart(samples.xor_dyeing(2)), (((0, 1), (0, 2)), ((0, 1), (0, 3)), ((0, 2), (0, 3))))
        self.assertEqual(taken_apart(samples.hoop_dyeing(12)), ())
        self.assertEqual(taken_apart(woven(TWO, THREE)), (((0, 1), (0, 2)),))
        self.assertEqual(taken_apart(woven(THREE, TWO)), (((0, 1), (0, 2)),))
        # The rooms of three of the six listings go with those of two, but not in either sequence.
        self.assertEqual(taken_apart(samples.swaps_dyeing()), ())

    def test_word_by_word(self):
        dyeings = samples.even_dyeings() + [nested(TWO, THREE), nested(THREE, TWO), woven(TWO, samples.ring_dyeing(6))]
        dyeings += [numbered(woven(samples.hoop_dyeing(5), THREE), samples.random_listing(4, 15)), woven(TWO, samples.cube_dyeing(3))]
        for dyeing in dyeings:
            if samples.plain_dye_count(dyeing) <= 12:
                self.assertEqual(taken_apart(dyeing), self.plain_taken_apart(dyeing))

    def test_sixteen_dyes(self):
        told = taken_apart(samples.xor_dyeing(4))
        self.assertEqual(told, tuple(sorted(set(told))))
        # Two and eight: each of fifteen with eight of fifteen; four and four: each of 35 with 16, each two once.
        self.assertEqual(len(told), 15 * 8 + 35 * 16 // 2)
        self.assertTrue(all(one < other and set(one) & set(other) == {0} for one, other in told))

    def test_woven_even_dyeings(self):
        even = [dyeing for dyeing in samples.even_dyeings() if 2 <= len(dyeing) <= 8]
        for one in even:
            for other in even:
                m = len(other)
                if len(one) * m <= 16:
                    dyeing = woven(one, other)
                    places = range(len(dyeing))
                    within = tuple(sorted({dyeing[x][y] for x in places for y in places if x // m == y // m}))
                    across = tuple(sorted({dyeing[x][y] for x in places for y in places if x % m == y % m}))
                    self.assertIn(tuple(sorted((within, across))), taken_apart(dyeing))

    def test_each_pair_gives_a_lead(self):
        dyeings = [woven(TWO, THREE), samples.ring_dyeing(6), samples.xor_dyeing(3), samples.ring_dyeing(12)]
        dyeings += [numbered(woven(samples.ring_dyeing(5), THREE), samples.random_listing(k, 15)) for k in (1, 2)]
        for dyeing in dyeings:
            told = taken_apart(dyeing)
            self.assertGreater(len(told), 0)
            for one, other in told:
                both = woven(in_room(dyeing, one, 0), in_room(dyeing, other, 0))
                if len(dyeing) <= 7:
                    self.assertNotEqual(leads(dyeing, both), ())
                # The place of two parts is the one that is with the second part by the one, with the first by the other.
                listing = tuple(
                    z for a in rooms(dyeing, one)[0] for b in rooms(dyeing, other)[0]
                    for z in range(len(dyeing)) if dyeing[z][b] in one and dyeing[z][a] in other
                )
                self.assertEqual(numbered(dyeing, listing), both)

    def test_the_sizes_fit(self):
        for dyeing in [samples.xor_dyeing(3), samples.ring_dyeing(12), woven(TWO, samples.cube_dyeing(3))]:
            sheet = sheet_of(dyeing)
            for one, other in taken_apart(dyeing):
                many = sum(degree(sheet, dye) for dye in one) * sum(degree(sheet, dye) for dye in other)
                self.assertEqual(many, len(dyeing))

    def test_not_even(self):
        for dyeing in [(), WAY, LOTS, OPEN, samples.single_dyeing(16), samples.full_dyeing(16)]:
            self.assertRaises(NotEven, taken_apart, dyeing)


if __name__ == "__main__":
    unittest.main()
