"""[22], [23] and [24]: even dyeings, room sets and rooms, whole dyeings, and lots."""

import unittest
from itertools import combinations

from pairdyes.closings import closing
from pairdyes.errors import NotClosed, NotEven, NotRooms
from pairdyes.marks import place_parts
from pairdyes.numberings import numbered
from pairdyes.rooms import between_rooms, in_room, is_even, is_whole, lot_dyeing, room_set_of, room_sets, rooms
from pairdyes.sheetleads import dye_leads
from pairdyes.sheets import degree, sheet_of
from tests import samples
from tests.samples import THREE, TWO, WAY, pairs

LOTS = ((0, 1, 2), (1, 0, 2), (3, 3, 4))
NOT_EVEN = [
    (), WAY, LOTS, ((0, 0), (0, 0)), ((0, 1), (2, 3)), ((0, 1), (2, 0)), samples.way_dyeing(16),
    samples.single_dyeing(16), samples.full_dyeing(16), samples.plain_marked(samples.even_dyeing(5), 2),
]


def is_plain_room_set(dyeing, dyes):
    """Whether having a dye of the dyes parts the places, by looking at all pairs and triples."""
    places = range(len(dyeing))
    held = {(x, y) for x, y in pairs(dyeing) if dyeing[x][y] in dyes}
    return (
        all((x, x) in held for x in places)
        and all((y, x) in held for x, y in held)
        and all((x, z) in held for x, y in held for z in places if (y, z) in held)
    )


def plain_room_sets(dyeing):
    """All room sets, ascending, by trying all tuples of dyes."""
    r = samples.plain_dye_count(dyeing)
    tuples = [(0,) + dyes for many in range(r) for dyes in combinations(range(1, r), many)]
    return tuple(sorted(dyes for dyes in tuples if is_plain_room_set(dyeing, dyes)))


def plain_rooms(dyeing, room_set):
    """The rooms, by what each place is with."""
    n = len(dyeing)
    return tuple(sorted({tuple(y for y in range(n) if dyeing[x][y] in room_set) for x in range(n)}))


def few_even(most):
    """Even dyeings of at most so many dyes."""
    found = [dyeing for dyeing in samples.even_dyeings() if samples.plain_dye_count(dyeing) <= most]
    return found + [numbered(dyeing, samples.random_listing(len(dyeing), len(dyeing))) for dyeing in found[::3]]


class IsEvenTest(unittest.TestCase):
    def test_even_dyeings(self):
        for dyeing in samples.even_dyeings():
            self.assertIs(is_even(dyeing), True)

    def test_others(self):
        for dyeing in NOT_EVEN:
            self.assertIs(is_even(dyeing), False)
        # One dye at all middle pairs does not make it closed.
        self.assertIs(is_even(samples.tied_dyeing(4, lambda x, y: abs(x - y) == 1)), False)
        self.assertIs(is_even(samples.full_dyeing(1)), True)

    def test_by_the_conditions(self):
        for dyeing in samples.all_dyeings(1) + samples.all_dyeings(2) + samples.all_dyeings(3)[::37] + [THREE]:
            expected = samples.plain_closed_breach(dyeing) is None and len({row[x] for x, row in enumerate(dyeing)}) == 1
            self.assertIs(is_even(dyeing), expected)


class RoomSetTest(unittest.TestCase):
    def test_room_sets_by_hand(self):
        self.assertEqual(room_sets(((0,),)), ((0,),))
        self.assertEqual(room_sets(TWO), ((0,), (0, 1)))
        self.assertEqual(room_sets(samples.ring_dyeing(6)), ((0,), (0, 1, 2, 3, 4, 5), (0, 2, 4), (0, 3)))
        self.assertEqual(room_sets(samples.hoop_dyeing(6)), ((0,), (0, 1, 2, 3), (0, 2), (0, 3)))
        self.assertEqual(room_sets(samples.blocks_dyeing(6, 2)), ((0,), (0, 1), (0, 1, 2)))
        self.assertEqual(len(room_sets(samples.swaps_dyeing())), 6)

    def test_room_set_of_by_hand(self):
        ring = samples.ring_dyeing(12)
        self.assertEqual(room_set_of(ring, ()), (0,))
        self.assertEqual(room_set_of(ring, (0,)), (0,))
        self.assertEqual(room_set_of(ring, (4,)), (0, 4, 8))
        self.assertEqual(room_set_of(ring, (9,)), (0, 3, 6, 9))
        self.assertEqual(room_set_of(ring, (5,)), tuple(range(12)))
        self.assertEqual(room_set_of(ring, (6, 8)), (0, 2, 4, 6, 8, 10))
        self.assertEqual(room_set_of(ring, (3, 4)), tuple(range(12)))
        self.assertEqual(room_set_of(((0,),), ()), (0,))
        self.assertEqual(room_set_of(((0,),), (0,)), (0,))
        xor = samples.xor_dyeing(4)
        self.assertEqual(room_set_of(xor, (3, 5)), (0, 3, 5, 6))
        self.assertEqual(room_set_of(xor, (1, 2, 4)), tuple(range(8)))
        self.assertEqual(room_set_of(samples.cube_dyeing(4), (2,)), (0, 2, 4))
        self.assertEqual(room_set_of(samples.cube_dyeing(4), (4,)), (0, 4))

    def test_room_sets_against_all_tuples_of_dyes(self):
        for dyeing in few_even(8):
            self.assertEqual(room_sets(dyeing), plain_room_sets(dyeing))

    def test_room_set_of_is_the_least_with_the_dyes(self):
        for dyeing in few_even(6):
            told = plain_room_sets(dyeing)
            r = samples.plain_dye_count(dyeing)
            for dyes in [dyes for many in range(r + 1) for dyes in combinations(range(r), many)]:
                wide = [room_set for room_set in told if set(dyes) <= set(room_set)]
                self.assertEqual(room_set_of(dyeing, dyes), min(wide, key=len))

    def test_sixteen_places_and_many_dyes(self):
        xor = samples.xor_dyeing(4)
        told = room_sets(xor)
        self.assertEqual(len(told), 67)
        self.assertEqual(told, tuple(sorted(set(told))))
        self.assertEqual(sorted(map(len, told)), [1] + [2] * 15 + [4] * 35 + [8] * 15 + [16])
        self.assertTrue(all(a ^ b in room_set for room_set in told for a in room_set for b in room_set))
        self.assertEqual(room_sets(samples.ring_dyeing(16)), tuple(sorted(tuple(range(0, 16, k)) for k in (1, 2, 4, 8, 16))))
        self.assertEqual(len(room_sets(samples.turns_dyeing())), 10)
        self.assertEqual(room_sets(samples.ring_dyeing(13)), ((0,), tuple(range(13))))

    def test_room_sets_are_told_by_the_counts(self):
        for dyeing in few_even(5):
            counts = sheet_of(dyeing)[2]
            r = len(counts)
            told = room_sets(dyeing)
            for dyes in [(0,) + dyes for many in range(r) for dyes in combinations(range(1, r), many)]:
                others = [k for k in range(r) if k not in dyes]
                kept = all(counts[k][i][j] == 0 for k in others for i in dyes for j in dyes)
                self.assertIs(dyes in told, kept)


class RoomsTest(unittest.TestCase):
    def test_by_hand(self):
        ring = samples.ring_dyeing(6)
        self.assertEqual(rooms(ring, (0, 3)), ((0, 3), (1, 4), (2, 5)))
        self.assertEqual(rooms(ring, (0, 2, 4)), ((0, 2, 4), (1, 3, 5)))
        self.assertEqual(in_room(ring, (0, 2, 4), 1), samples.ring_dyeing(3))
        self.assertEqual(between_rooms(ring, (0, 3)), samples.ring_dyeing(3))
        self.assertEqual(between_rooms(ring, (0, 2, 4)), TWO)
        self.assertEqual(rooms(((0,),), (0,)), ((0,),))
        self.assertEqual(in_room(((0,),), (0,), 0), ((0,),))
        self.assertEqual(between_rooms(((0,),), (0,)), ((0,),))
        blocks = numbered(samples.blocks_dyeing(6, 2), (0, 2, 4, 5, 3, 1))
        self.assertEqual(rooms(blocks, (0, 2)), ((0, 5), (1, 4), (2, 3)))
        self.assertEqual(in_room(blocks, (0, 2), 2), TWO)
        self.assertEqual(between_rooms(blocks, (0, 2)), THREE)
        hoop = samples.hoop_dyeing(8)
        self.assertEqual(in_room(hoop, (0, 2, 4), 0), samples.hoop_dyeing(4))
        self.assertEqual(between_rooms(hoop, (0, 4)), samples.hoop_dyeing(4))

    def test_the_smallest_and_the_greatest_room_set(self):
        for dyeing in samples.even_dyeings():
            n = len(dyeing)
            every = tuple(range(samples.plain_dye_count(dyeing)))
            self.assertEqual(rooms(dyeing, (0,)), tuple((x,) for x in range(n)))
            self.assertEqual(in_room(dyeing, (0,), n - 1), ((0,),))
            self.assertEqual(between_rooms(dyeing, (0,)), dyeing)
            self.assertEqual(rooms(dyeing, every), (tuple(range(n)),))
            self.assertEqual(in_room(dyeing, every, 0), dyeing)
            self.assertEqual(between_rooms(dyeing, every), ((0,),))

    def test_by_looking_at_all_pairs(self):
        for dyeing in few_even(12):
            sheet = sheet_of(dyeing)
            for room_set in room_sets(dyeing):
                told = rooms(dyeing, room_set)
                self.assertEqual(told, plain_rooms(dyeing, room_set))
                self.assertEqual({len(room) for room in told}, {sum(degree(sheet, dye) for dye in room_set)})
                for k, room in enumerate(told):
                    within = samples.plain_dyed([[dyeing[x][y] for y in room] for x in room])
                    self.assertEqual(in_room(dyeing, room_set, k), within)
                    self.assertIs(is_even(within), True)
                between = between_rooms(dyeing, room_set)
                table = [[frozenset(dyeing[x][y] for x in one for y in other) for other in told] for one in told]
                self.assertEqual(between, samples.plain_dyed(table))
                self.assertIs(is_even(between), True)

    def test_facts(self):
        for dyeing in few_even(8):
            told = room_sets(dyeing)
            for room_set in told:
                above = [other for other in told if set(room_set) <= set(other)]
                below = [other for other in told if set(other) <= set(room_set)]
                self.assertEqual(len(room_sets(between_rooms(dyeing, room_set))), len(above))
                sheets = [sheet_of(in_room(dyeing, room_set, k)) for k in range(len(rooms(dyeing, room_set)))]
                for k in range(0, len(sheets), 3):
                    self.assertEqual(len(room_sets(in_room(dyeing, room_set, k))), len(below))
                    self.assertNotEqual(dye_leads(sheets[0], sheets[k]), ())
                    self.assertNotEqual(dye_leads(sheets[k], sheets[0]), ())


class ErrorsTest(unittest.TestCase):
    def assert_no_rooms(self, dyeing, room_set):
        self.assertRaises(NotRooms, rooms, dyeing, room_set)
        self.assertRaises(NotRooms, in_room, dyeing, room_set, 0)
        self.assertRaises(NotRooms, between_rooms, dyeing, room_set)

    def test_not_rooms_by_hand(self):
        ring = samples.ring_dyeing(6)
        wrong = [
            (), (3,), (2, 4), (1, 2, 3, 4, 5), (0, 1), (0, 2), (0, 4), (0, 1, 5), (0, 2, 3, 4), (0, 2, 4, 5),
            (0, 6), (0, 3, 6), (0, 2, 4, 6), (0, 1, 2, 3, 4, 5, 6), (6,), (0, 100), (-1, 0), (-1, 0, 3),
        ]
        for room_set in wrong:
            self.assert_no_rooms(ring, room_set)
        for room_set in [(), (1,), (0, 1)]:
            self.assert_no_rooms(((0,),), room_set)
        # Without the turned dye, or without what comes of two behind one another.
        self.assert_no_rooms(samples.ring_dyeing(3), (0, 1))
        self.assert_no_rooms(samples.xor_dyeing(2), (0, 1, 2))

    def test_not_rooms_for_all_other_tuples(self):
        for dyeing in few_even(5):
            told = plain_room_sets(dyeing)
            r = samples.plain_dye_count(dyeing)
            for dyes in [dyes for many in range(r + 2) for dyes in combinations(range(r + 1), many)]:
                if dyes not in told:
                    self.assert_no_rooms(dyeing, dyes)

    def test_not_even_comes_first(self):
        for dyeing in NOT_EVEN:
            self.assertRaises(NotEven, room_sets, dyeing)
            for dyes in [(), (0,), (0, 1), (7,), (-3, 900), None, [0], "0"]:
                self.assertRaises(NotEven, room_set_of, dyeing, dyes)
                self.assertRaises(NotEven, rooms, dyeing, dyes)
                self.assertRaises(NotEven, between_rooms, dyeing, dyes)
                for k in (0, 99, -1, None, "0"):
                    self.assertRaises(NotEven, in_room, dyeing, dyes, k)


class WholeTest(unittest.TestCase):
    def test_by_hand(self):
        whole = [
            TWO, THREE, samples.even_dyeing(16), samples.ring_dyeing(2), samples.ring_dyeing(3), samples.ring_dyeing(13),
            samples.hoop_dyeing(5), samples.hoop_dyeing(7), samples.petersen_dyeing(), samples.shrikhande_dyeing(),
            samples.rook_dyeing(),
        ]
        for dyeing in whole:
            self.assertIs(is_whole(dyeing), True)
        others = [
            ((0,),), samples.ring_dyeing(4), samples.hoop_dyeing(4), samples.hoop_dyeing(6), samples.blocks_dyeing(6, 3),
            samples.cube_dyeing(2), samples.cube_dyeing(4), samples.xor_dyeing(4), samples.swaps_dyeing(),
        ]
        for dyeing in others + NOT_EVEN:
            self.assertIs(is_whole(dyeing), False)

    def test_by_the_room_sets(self):
        for dyeing in few_even(8):
            expected = len(dyeing) >= 2 and plain_room_sets(dyeing) == ((0,), tuple(range(samples.plain_dye_count(dyeing))))
            self.assertIs(is_whole(dyeing), expected)

    def test_by_going_along_each_dye(self):
        for dyeing in samples.even_dyeings():
            n = len(dyeing)
            if n >= 2:
                alone = []
                for dye in range(1, samples.plain_dye_count(dyeing)):
                    reached = [0]
                    for x in reached:
                        reached += [y for y in range(n) if y not in reached and dye in (dyeing[x][y], dyeing[y][x])]
                    alone.append(len(reached) < n)
                self.assertIs(is_whole(dyeing), not any(alone))


class LotTest(unittest.TestCase):
    def test_by_hand(self):
        self.assertEqual(lot_dyeing(((0,),), 0), ((0,),))
        self.assertEqual(lot_dyeing(TWO, 0), TWO)
        self.assertEqual(lot_dyeing(LOTS, 0), TWO)
        self.assertEqual(lot_dyeing(LOTS, 1), ((0,),))
        self.assertEqual(lot_dyeing(numbered(LOTS, (0, 2, 1)), 0), TWO)
        self.assertEqual(lot_dyeing(numbered(LOTS, (2, 0, 1)), 1), TWO)

    def test_each_lot(self):
        dyeings = [dyeing for dyeing in samples.closed_dyeings(7) if dyeing] + [closing(samples.way_dyeing(16))]
        for dyeing in dyeings:
            for k, lot in enumerate(place_parts(dyeing)):
                told = lot_dyeing(dyeing, k)
                self.assertEqual(told, samples.plain_dyed([[dyeing[x][y] for y in lot] for x in lot]))
                self.assertIs(is_even(told), True)

    def test_not_closed(self):
        for dyeing in (WAY, samples.single_dyeing(2), ((0, 1), (1, 1)), samples.way_dyeing(16)):
            self.assertRaises(NotClosed, lot_dyeing, dyeing, 0)


if __name__ == "__main__":
    unittest.main()
