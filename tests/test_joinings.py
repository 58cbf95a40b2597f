"""[19], [20] and [21]: joinings."""

import unittest

from pairdyes.closings import closing, is_closed
from pairdyes.dyeings import dyeing_breach
from pairdyes.errors import NotClosed, NotJoining, NotLeads, TooMany
from pairdyes.joinings import closed_joinings, joined_dyes, joining_of, led_joining
from pairdyes.orders import is_within
from pairdyes.sheetleads import dye_leads
from pairdyes.sheets import sheet_of
from tests import samples
from tests.samples import THREE, TWO, WAY, plain_joinings


def all_joinings(r):
    """All joinings of r dyes, ascending."""
    return sorted(tuple(sorted(tuple(sorted(part)) for part in parts)) for parts in plain_joinings(tuple(range(r))))


def plain_joined(dyeing, joining):
    """`joined_dyes` by the table."""
    return samples.plain_dyed([[[dye in part for part in joining] for dye in row] for row in dyeing])


def finest_above(one, other, r):
    """The finest joining whose parts are unions of parts of both."""
    parts = [{dye} for dye in range(r)]
    for linked in one + other:
        reached = [part for part in parts if part & set(linked)]
        parts = [part for part in parts if part not in reached] + [set().union(*reached)]
    return tuple(sorted(tuple(sorted(part)) for part in parts))


class JoinedTest(unittest.TestCase):
    def test_by_hand(self):
        self.assertEqual(joined_dyes((), ()), ())
        self.assertEqual(joined_dyes(((0,),), ((0,),)), ((0,),))
        self.assertEqual(joined_dyes(WAY, ((0,), (1,), (2,))), WAY)
        self.assertEqual(joined_dyes(WAY, ((0,), (1, 2))), THREE)
        self.assertEqual(joined_dyes(WAY, ((0, 2), (1,))), ((0, 1, 0), (1, 0, 1), (0, 1, 0)))
        self.assertEqual(joined_dyes(WAY, ((0, 1, 2),)), ((0, 0, 0), (0, 0, 0), (0, 0, 0)))
        self.assertEqual(joined_dyes(((0, 1), (2, 3)), ((0, 3), (1,), (2,))), ((0, 1), (2, 0)))
        self.assertEqual(joined_dyes(((0, 1), (2, 3)), ((0, 2), (1, 3))), ((0, 1), (0, 1)))

    def test_by_the_table(self):
        for dyeing in samples.some_dyeings(4) + samples.all_dyeings(3)[::2111]:
            r = samples.plain_dye_count(dyeing)
            for joining in all_joinings(r) if r < 6 else [((0,), tuple(range(1, r))), ((0, r - 1), tuple(range(1, r - 1)))]:
                told = joined_dyes(dyeing, joining)
                self.assertEqual(told, plain_joined(dyeing, joining))
                self.assertIsNone(dyeing_breach(told))

    def test_sixteen_places(self):
        full = samples.full_dyeing(16)
        middles = tuple(range(0, 256, 17))
        rest = tuple(dye for dye in range(256) if dye not in middles)
        self.assertEqual(joined_dyes(full, (middles, rest)), samples.even_dyeing(16))

    def test_values_that_are_no_joining(self):
        one = tuple((dye,) for dye in range(3))
        self.assertEqual(joined_dyes(WAY, one), WAY)
        wrong = samples.OTHER_VALUES + [
            (), ((),), ((), (0,), (1,), (2,)), ((0,), (1,), (2,), ()), ((0, 1, 2), ()), "012", ((0, 1, 2), None),
            [(0,), (1,), (2,)], ([0], [1], [2]), ((0,), (1,), [2]), ((0,), (1,), 2), (0, 1, 2), ((0,), (1,), "2"),
            ((0,), (0,), (1,), (2,)), ((0, 0), (1,), (2,)), ((0, 1), (1, 2)), ((0, 1), (1,), (2,)),
            ((0,), (1,)), ((1,), (2,)), ((0, 1),), ((0,), (1,), (2,), (3,)), ((0,), (1,), (2, 3)), ((0,), (1,), (3,)),
            ((-1,), (0,), (1,), (2,)), ((-1, 0), (1,), (2,)), ((0,), (1, -1), (2,)), ((0,), (1,), (2,), (10 ** 30,)),
            ((False,), (1,), (2,)), ((0,), (True,), (2,)), ((0, True), (2,)), ((0.0,), (1,), (2,)),
            ((0,), (1.0,), (2,)), ((0,), (None,), (2,)), ((0,), ("1",), (2,)), ((0,), ((1,),), (2,)), ((0,), ([],), (2,)),
            ((1,), (0,), (2,)), ((0,), (2,), (1,)), ((1, 0), (2,)), ((0,), (2, 1)), ((1, 2), (0,)), ((2, 1, 0),),
            (((0,), (1,), (2,)),), ((0,), (1,), {2}), ((0,), (1,), {2: 2}), ((0,), (1, ()), (2,)),
        ]
        for value in wrong:
            self.assertRaises(NotJoining, joined_dyes, WAY, value)
        for value in [((0,),), ((),), [], None, ((), ())]:
            self.assertRaises(NotJoining, joined_dyes, (), value)
        for value in [(), ((True,),), ((False,),), ((1,),), ((0, 1),), ((0,), (1,))]:
            self.assertRaises(NotJoining, joined_dyes, ((0,),), value)

    def test_a_joining_of_a_joining(self):
        ring = samples.ring_dyeing(6)
        once = joined_dyes(ring, ((0,), (1, 5), (2, 4), (3,)))
        self.assertEqual(once, samples.hoop_dyeing(6))
        self.assertEqual(joined_dyes(once, ((0, 3), (1, 2))), joined_dyes(ring, ((0, 3), (1, 2, 4, 5))))


class JoiningOfTest(unittest.TestCase):
    def test_by_hand(self):
        self.assertEqual(joining_of((), ()), ())
        self.assertEqual(joining_of(((0,),), ((0,),)), ((0,),))
        self.assertEqual(joining_of(WAY, WAY), ((0,), (1,), (2,)))
        self.assertEqual(joining_of(WAY, THREE), ((0,), (1, 2)))
        self.assertEqual(joining_of(WAY, samples.single_dyeing(3)), ((0, 1, 2),))
        self.assertEqual(joining_of(((0, 1), (2, 3)), ((0, 1), (0, 1))), ((0, 2), (1, 3)))

    def test_there_and_back(self):
        for dyeing in samples.some_dyeings(4):
            r = samples.plain_dye_count(dyeing)
            for joining in all_joinings(r) if r < 6 else [((0,), tuple(range(1, r))), ((0, 2), (1,) + tuple(range(3, r)))]:
                other = joined_dyes(dyeing, joining)
                self.assertEqual(joining_of(dyeing, other), joining)
                self.assertEqual(joined_dyes(dyeing, joining_of(dyeing, other)), other)
        for n in (6, 16):
            for dyeing in (samples.way_dyeing(n), samples.random_dyeing(n, n, 3)):
                finer = closing(dyeing)
                self.assertEqual(joined_dyes(finer, joining_of(finer, dyeing)), dyeing)


class ClosedJoiningsTest(unittest.TestCase):
    def test_by_hand(self):
        self.assertEqual(closed_joinings(()), ((),))
        self.assertEqual(closed_joinings(((0,),)), (((0,),),))
        self.assertEqual(closed_joinings(TWO), (((0,), (1,)),))
        self.assertEqual(closed_joinings(samples.full_dyeing(2)), (((0,), (1,), (2,), (3,)), ((0, 3), (1, 2))))
        self.assertEqual(closed_joinings(samples.ring_dyeing(4)), (
            ((0,), (1,), (2,), (3,)), ((0,), (1, 2, 3)), ((0,), (1, 3), (2,)),
        ))
        self.assertEqual(closed_joinings(((0, 1, 2), (1, 0, 2), (3, 3, 4))), (
            ((0,), (1,), (2,), (3,), (4,)), ((0, 4), (1, 2, 3)),
        ))

    def test_against_all_joinings(self):
        dyeings = [d for d in samples.closed_dyeings(6) + samples.even_dyeings() if samples.plain_dye_count(d) <= 6]
        for dyeing in dyeings:
            expected = [
                joining for joining in all_joinings(samples.plain_dye_count(dyeing))
                if is_closed(plain_joined(dyeing, joining))
            ]
            self.assertEqual(closed_joinings(dyeing), tuple(expected))

    def test_seven_dyes(self):
        self.assertEqual(len(all_joinings(7)), 877)
        ring = samples.ring_dyeing(7)
        expected = [joining for joining in all_joinings(7) if is_closed(plain_joined(ring, joining))]
        self.assertEqual(closed_joinings(ring), tuple(expected))
        self.assertEqual(len(expected), 4)
        self.assertEqual(len(closed_joinings(samples.hoop_dyeing(13))), 4)
        seven = closing(samples.plain_dyed([[(x // 8, y // 8, x == y, x < 8 and y < 8 and x // 4 == y // 4)
                                             for y in range(16)] for x in range(16)]))
        self.assertEqual(samples.plain_dye_count(seven), 7)
        told = closed_joinings(seven)
        self.assertEqual(told, tuple(joining for joining in all_joinings(7) if is_closed(joined_dyes(seven, joining))))

    def test_not_closed_and_too_many(self):
        for dyeing in (WAY, samples.single_dyeing(2), samples.random_dyeing(1, 4, 9), samples.way_dyeing(16)):
            self.assertRaises(NotClosed, closed_joinings, dyeing)
        for dyeing in (samples.ring_dyeing(8), samples.full_dyeing(3), samples.full_dyeing(16), samples.xor_dyeing(4)):
            with self.assertRaises(TooMany) as caught:
                closed_joinings(dyeing)
            self.assertEqual(caught.exception.limit, 7)

    def test_facts(self):
        dyeings = [d for d in samples.closed_dyeings(5) + samples.even_dyeings() if samples.plain_dye_count(d) <= 5]
        dyeings.append(samples.ring_dyeing(6))
        for dyeing in dyeings:
            r = samples.plain_dye_count(dyeing)
            for joining in all_joinings(r):
                self.assertTrue(is_within(dyeing, closing(joined_dyes(dyeing, joining))))
            told = closed_joinings(dyeing)
            for one in told:
                for other in told:
                    self.assertIn(finest_above(one, other, r), told)


class LedJoiningTest(unittest.TestCase):
    def test_by_hand(self):
        ring = samples.ring_dyeing(8)
        self.assertEqual(led_joining((), ()), ())
        self.assertEqual(led_joining((), ((),)), ())
        self.assertEqual(led_joining(((0,),), ((0,),)), ((0,),))
        self.assertEqual(led_joining(ring, ()), tuple((dye,) for dye in range(8)))
        self.assertEqual(led_joining(ring, (tuple(range(8)),)), tuple((dye,) for dye in range(8)))
        turn = tuple(-x % 8 for x in range(8))
        triple = tuple(3 * x % 8 for x in range(8))
        self.assertEqual(led_joining(ring, (turn,)), ((0,), (1, 7), (2, 6), (3, 5), (4,)))
        self.assertEqual(led_joining(ring, (triple,)), ((0,), (1, 3), (2, 6), (4,), (5, 7)))
        self.assertEqual(led_joining(ring, (triple, turn)), ((0,), (1, 3, 5, 7), (2, 6), (4,)))
        self.assertEqual(led_joining(ring, (turn, triple, turn)), ((0,), (1, 3, 5, 7), (2, 6), (4,)))
        self.assertEqual(led_joining(samples.full_dyeing(2), ((3, 2, 1, 0),)), ((0, 3), (1, 2)))

    def test_all_leads(self):
        dyeings = [d for d in samples.closed_dyeings(6) + samples.even_dyeings() if samples.plain_dye_count(d) <= 8]
        for dyeing in dyeings:
            sheet = sheet_of(dyeing)
            told = dye_leads(sheet, sheet)
            for listings in [(), told[:1], told[-1:], told[1:3], told[1:3] * 2, told[::-1]]:
                joining = led_joining(dyeing, listings)
                self.assertEqual(joining, samples.plain_groups(samples.plain_dye_count(dyeing), listings))
                self.assertIs(is_closed(joined_dyes(dyeing, joining)), True)

    def test_not_leads(self):
        ring = samples.ring_dyeing(4)
        turn = (0, 3, 2, 1)
        self.assertEqual(led_joining(ring, (turn,)), ((0,), (1, 3), (2,)))
        wrong = samples.OTHER_VALUES + [
            [turn], {turn: True}, {turn}, turn, "0321", (list(turn),), (turn, list(turn)), (turn, None), (None, turn),
            ((0, 2, 1, 3),), (turn, (0, 2, 1, 3)), ((1, 0, 2, 3),), ((1, 2, 3, 0),), ((0, 3, 2),), ((0, 3, 2, 1, 4),), ((),),
            ((0, 3, 2, True),), ((False, 3, 2, 1),), ((0, 3.0, 2, 1),), ((0, "3", 2, 1),), ((0, None, 2, 1),),
            ((0, 3, 2, 3),), ((0, 3, 2, -1),), ((0, 3, 2, (1,)),), ((0, 3, 2, [1]),), ((turn,),), ("0321",), (0,), (True,),
        ]
        for value in wrong:
            self.assertRaises(NotLeads, led_joining, ring, value)
        for value in [((0,),), None, [], ((), (0,)), (None,)]:
            self.assertRaises(NotLeads, led_joining, (), value)

    def test_not_closed_and_too_many_come_first(self):
        for value in (None, (), ((0, 1),), [1], ((1, 0, 2),)):
            self.assertRaises(NotClosed, led_joining, WAY, value)
            self.assertRaises(NotClosed, led_joining, samples.random_dyeing(2, 5, 25), value)
            for dyeing in (samples.ring_dyeing(9), samples.full_dyeing(3), samples.full_dyeing(16)):
                with self.assertRaises(TooMany) as caught:
                    led_joining(dyeing, value)
                self.assertEqual(caught.exception.limit, 8)

    def test_many_places_and_just_eight_dyes(self):
        self.assertEqual(led_joining(samples.even_dyeing(16), ((0, 1),)), ((0,), (1,)))
        xor = samples.xor_dyeing(3)
        self.assertEqual(led_joining(xor, ((0, 2, 1, 3, 4, 6, 5, 7),)), ((0,), (1, 2), (3,), (4,), (5, 6), (7,)))


if __name__ == "__main__":
    unittest.main()
