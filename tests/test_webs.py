"""[41] and [42]: webs, distances, far webs, steady webs and their arrays."""

import random
import unittest
from itertools import combinations

from pairdyes.closings import closing, is_closed
from pairdyes.dyeings import dye_count, dyeing_breach
from pairdyes.errors import NotSteady, NotTied
from pairdyes.families import choice_web, letter_web, parts_web, ring_web
from pairdyes.orders import is_within
from pairdyes.rooms import is_even
from pairdyes.shades import is_plain, shades
from pairdyes.webs import array_breach, array_of, array_row, distance_dyeing, distances, far_web, web_dyeing
from tests import samples

NO_PLACE = (0, ())
ONE_PLACE = (1, ())
WAY_WEB = (3, ((0, 1), (1, 2)))
PETERSEN = (10, tuple(
    (x, y) for (x, one), (y, other) in combinations(list(enumerate(combinations(range(5), 2))), 2)
    if not set(one) & set(other)
))
# Eight places around a ring, each tied to the opposite one, too.
LADDER = (8, tuple(sorted([(x, x + 1) for x in range(7)] + [(0, 7)] + [(x, x + 4) for x in range(4)])))
# Two triangles, tied to each other place by place.
PRISM = (6, ((0, 1), (0, 2), (0, 3), (1, 2), (1, 4), (2, 5), (3, 4), (3, 5), (4, 5)))


def random_web(seed, n, share):
    """A web of n places with about so many hundredths of all ties; the same one for each seed."""
    source = random.Random(seed)
    return n, tuple(tie for tie in combinations(range(n), 2) if source.randrange(100) < share)


def some_webs():
    """Webs of 0 to 16 places, with and without ties, that hang together and that do not."""
    found = [NO_PLACE, ONE_PLACE, (2, ()), (2, ((0, 1),)), WAY_WEB, (4, ((0, 1), (2, 3))), (5, ((1, 3),)), (16, ())]
    found += [(n, tuple((x, x + 1) for x in range(n - 1))) for n in (5, 15, 16)]
    found += [PETERSEN, LADDER, PRISM, parts_web((1,) * 16), letter_web(4, 2), letter_web(2, 4)]
    found += [(16, tuple((0, x) for x in range(1, 16)))]
    return found + [random_web(n * share, n, share) for n in (3, 4, 6, 9, 13, 16) for share in (8, 20, 50, 85)]


def steady_webs():
    """Steady webs of several sorts."""
    found = [ONE_PLACE, (2, ((0, 1),)), PETERSEN] + [ring_web(n) for n in range(3, 17)]
    found += [letter_web(k, q) for k, q in [(1, 2), (1, 16), (2, 2), (2, 3), (2, 4), (3, 2), (4, 2)]]
    found += [choice_web(n, k) for n, k in [(4, 2), (5, 2), (6, 2), (4, 1), (5, 3), (5, 5), (16, 15)]]
    return found + [parts_web((2, 2)), parts_web((3, 3, 3)), parts_web((8, 8)), parts_web((1,) * 7)]


def plain_distances(web):
    """The distances by ways that grow by one tie at a time over all places."""
    n, ties = web
    table = [[0 if x == y else -1 for y in range(n)] for x in range(n)]
    for distance in range(n):
        for x, y in [(x, y) for x in range(n) for y in range(n) if table[x][y] == distance]:
            for z in range(n):
                if table[x][z] == -1 and ((min(y, z), max(y, z)) in ties):
                    table[x][z] = distance + 1
    return tuple(tuple(row) for row in table)


def steps_by_pairs(web):
    """For each distance the pairs of numbers of neighbours farther and nearer, counted from each pair."""
    n, ties = web
    table = plain_distances(web)
    found = {}
    for x in range(n):
        for y in range(n):
            i = table[x][y]
            near = [z for z in range(n) if (min(y, z), max(y, z)) in ties]
            further = sum(1 for z in near if table[x][z] == i + 1)
            nearer = sum(1 for z in near if i > 0 and table[x][z] == i - 1)
            found.setdefault(i, set()).add((further, nearer))
    return found


def least_unsteady(web):
    """The least distance at which the numbers of neighbours differ, or None."""
    return min([i for i, steps in steps_by_pairs(web).items() if len(steps) > 1], default=None)


def hangs_together(web):
    """Whether there is a place and a way between any two."""
    return web[0] > 0 and not any(-1 in row for row in plain_distances(web))


class DistancesTest(unittest.TestCase):
    def test_web_dyeing(self):
        self.assertEqual(web_dyeing(NO_PLACE), ())
        self.assertEqual(web_dyeing(ONE_PLACE), ((0,),))
        self.assertEqual(web_dyeing((2, ())), ((0, 1), (1, 0)))
        self.assertEqual(web_dyeing((2, ((0, 1),))), ((0, 1), (1, 0)))
        self.assertEqual(web_dyeing(WAY_WEB), samples.WAY)
        self.assertEqual(web_dyeing((3, ((1, 2),))), ((0, 1, 1), (1, 0, 2), (1, 2, 0)))
        self.assertEqual(web_dyeing((16, ())), samples.even_dyeing(16))
        for web in some_webs():
            n, ties = web
            expected = samples.plain_dyed(
                [[0 if x == y else 1 if (x, y) in ties or (y, x) in ties else 2 for y in range(n)] for x in range(n)]
            )
            self.assertEqual(web_dyeing(web), expected)

    def test_distances(self):
        self.assertEqual(distances(NO_PLACE), ())
        self.assertEqual(distances(ONE_PLACE), ((0,),))
        self.assertEqual(distances((2, ())), ((0, -1), (-1, 0)))
        self.assertEqual(distances(WAY_WEB), ((0, 1, 2), (1, 0, 1), (2, 1, 0)))
        self.assertEqual(distances((4, ((0, 1), (1, 3)))), ((0, 1, -1, 2), (1, 0, -1, 1), (-1, -1, 0, -1), (2, 1, -1, 0)))
        self.assertEqual(distances((16, tuple((x, x + 1) for x in range(15))))[0], tuple(range(16)))
        for web in some_webs() + steady_webs():
            self.assertEqual(distances(web), plain_distances(web))

    def test_distance_dyeing(self):
        self.assertEqual(distance_dyeing(NO_PLACE), ())
        self.assertEqual(distance_dyeing((2, ())), ((0, 1), (1, 0)))
        self.assertEqual(distance_dyeing(ring_web(6)), samples.hoop_dyeing(6))
        self.assertEqual(distance_dyeing((3, ((1, 2),))), ((0, 1, 1), (1, 0, 2), (1, 2, 0)))
        for web in some_webs() + steady_webs():
            told = distance_dyeing(web)
            self.assertIsNone(dyeing_breach(told))
            self.assertEqual(told, samples.plain_dyed(plain_distances(web)))

    def test_far_web(self):
        self.assertEqual(far_web(NO_PLACE, 1), NO_PLACE)
        self.assertEqual(far_web(ONE_PLACE, 1), ONE_PLACE)
        self.assertEqual(far_web(WAY_WEB, 2), (3, ((0, 2),)))
        self.assertEqual(far_web(ring_web(6), 3), (6, ((0, 3), (1, 4), (2, 5))))
        line = (16, tuple((x, x + 1) for x in range(15)))
        self.assertEqual(far_web(line, 15), (16, ((0, 15),)))
        self.assertEqual(far_web(line, 14), (16, ((0, 14), (1, 15))))
        for web in some_webs() + steady_webs():
            table = plain_distances(web)
            for d in (1, 2, 3, 7, 15):
                ties = tuple((x, y) for x, y in combinations(range(web[0]), 2) if table[x][y] == d)
                self.assertEqual(far_web(web, d), (web[0], ties))
            self.assertEqual(far_web(web, 1), web)


class ArrayOfTest(unittest.TestCase):
    def test_by_hand(self):
        self.assertEqual(array_of(ONE_PLACE), ((), ()))
        self.assertEqual(array_of((2, ((0, 1),))), ((1,), (1,)))
        self.assertEqual(array_of(ring_web(3)), ((2,), (1,)))
        self.assertEqual(array_of(ring_web(6)), ((2, 1, 1), (1, 1, 2)))
        self.assertEqual(array_of(ring_web(7)), ((2, 1, 1), (1, 1, 1)))
        self.assertEqual(array_of(PETERSEN), ((3, 2), (1, 1)))
        self.assertEqual(array_of(letter_web(4, 2)), ((4, 3, 2, 1), (1, 2, 3, 4)))
        self.assertEqual(array_of(parts_web((8, 8))), ((8, 7), (1, 8)))

    def test_by_counting_from_each_pair(self):
        steady = 0
        for web in some_webs() + steady_webs():
            if not hangs_together(web):
                self.assertRaises(NotTied, array_of, web)
            elif least_unsteady(web) is not None:
                with self.assertRaises(NotSteady) as caught:
                    array_of(web)
                self.assertEqual(caught.exception.distance, least_unsteady(web))
            else:
                steps = steps_by_pairs(web)
                rows = [list(steps[i])[0] for i in range(len(steps))]
                self.assertEqual(array_of(web), (tuple(b for b, _ in rows[:-1]), tuple(c for _, c in rows[1:])))
                steady += 1
        self.assertGreater(steady, 30)

    def test_webs_that_do_not_hang_together(self):
        for web in [NO_PLACE, (2, ()), (16, ()), (3, ((0, 1),)), (4, ((0, 1), (2, 3))), (6, ring_web(5)[1])]:
            self.assertRaises(NotTied, array_of, web)

    def test_the_least_distance_that_is_not_steady(self):
        # At the distance 0 b fails; at 1 c fails first, or b fails, or both; and so on.
        webs = [
            (WAY_WEB, 0), ((16, tuple((0, x) for x in range(1, 16))), 0), (PRISM, 1), (LADDER, 2),
            ((16, tuple((x, x + 1) for x in range(15))), 0), (random_web(3, 16, 50), 0),
        ]
        for web, distance in webs:
            self.assertEqual(least_unsteady(web), distance)
            with self.assertRaises(NotSteady) as caught:
                array_of(web)
            self.assertEqual(vars(caught.exception), {"distance": distance})

    def test_where_only_b_fails_and_where_only_c_fails_first(self):
        ways = set()
        for seed in range(400):
            web = self.turned_web(seed)
            if hangs_together(web) and least_unsteady(web) is not None:
                distance = least_unsteady(web)
                steps = steps_by_pairs(web)[distance]
                with self.assertRaises(NotSteady) as caught:
                    array_of(web)
                self.assertEqual(caught.exception.distance, distance)
                ways.add((distance, len({b for b, _ in steps}) > 1, len({c for _, c in steps}) > 1))
        self.assertLessEqual({(1, True, False), (2, False, True), (2, True, True)}, ways)

    def turned_web(self, seed):
        """A web that looks the same from each place, told by the steps around a ring."""
        source = random.Random(seed)
        n = source.randint(6, 16)
        steps = [step for step in range(1, n // 2 + 1) if source.random() < 0.4]
        return n, tuple((x, y) for x, y in combinations(range(n), 2) if (y - x) in steps or (n - y + x) in steps)

    def test_facts_on_closings(self):
        for web in some_webs() + steady_webs():
            if hangs_together(web):
                steady = least_unsteady(web) is None
                told = distance_dyeing(web)
                self.assertEqual(is_closed(told), steady)
                closed = closing(web_dyeing(web))
                self.assertEqual(closed == told, steady)
                self.assertTrue(is_within(closed, told))
                self.assertEqual(dye_count(closed) > dye_count(told), not steady)

    def test_facts_on_steady_webs(self):
        plain = 0
        for web in steady_webs():
            array = array_of(web)
            self.assertIsNone(array_breach(array))
            told = distance_dyeing(web)
            # The dye of each distance, found in the first row.
            dyes = [told[0][distances(web)[0].index(distance)] for distance in range(len(array_row(array)))]
            self.assertEqual(list(array_row(array)), [samples.plain_degrees(told)[dye] for dye in dyes])
            self.assertTrue(is_even(told))
            self.assertEqual(told, tuple(zip(*told)))
            if is_plain(told):
                plain += 1
                self.check_shades(array, [[shade[dye] for dye in dyes] for shade in shades(told)])
        self.assertGreater(plain, 15)

    def check_shades(self, array, told):
        """Checks the equations of the point for shades, told by their entries at the dyes of the distances."""
        further, nearer = array
        d = len(nearer)
        for p in told:
            for i in range(1, d + 1):
                b = further[i] if i < d else 0
                total = (further[0] - b - nearer[i - 1]) * p[i] + further[i - 1] * p[i - 1]
                self.assertEqual(p[1] * p[i], total + (nearer[i] * p[i + 1] if i < d else 0))


class ArrayTest(unittest.TestCase):
    def assert_breach(self, value, word):
        self.assertEqual(array_breach(value), word, value)

    def test_arrays_that_break_no_rule(self):
        ones = (1,) * 15
        for value in [
            ((), ()), ((1,), (1,)), ((5,), (1,)), ((2, 1), (1, 1)), ((2, 1), (1, 2)), ((3, 2), (1, 1)), ((3, 2), (1, 3)),
            ((2,) + ones[1:], ones), ((2,) + ones[1:], ones[1:] + (2,)), ((10 ** 40,), (1,)),
            ((10 ** 40, 10 ** 40 - 1), (1, 10 ** 40)), ((6, 3), (1, 2)), ((4, 3, 2, 1), (1, 2, 3, 4)),
        ]:
            self.assertIsNone(array_breach(value), value)

    def test_form(self):
        for value in samples.OTHER_VALUES + [
            (), ((),), ((), (), ()), ((1,), ()), ((), (1,)), ((2, 1), (1,)), [(1,), (1,)], ([1], [1]), ([1], (1,)),
            ((1,), [1]), ((1,), None), (1, 1), "11", ("1", "1"), ((0,), (1,)), ((1,), (0,)), ((-1,), (1,)), ((1,), (-1,)),
            ((True,), (1,)), ((1,), (True,)), ((False,), (1,)), ((1.0,), (1,)), ((1,), ("1",)), ((None,), (1,)),
            ((2,) + (1,) * 15, (1,) * 16), ((), ((),)), (((1,),), ((1,),)), ((2, 0), (1, 1)), ((2, 1), (1, 0)),
            ((1,), (2,), ()), {0: (1,), 1: (1,)}, ((1, 2, 3), (7, 5, 0)), ((1, 10 ** 30), (1, -10 ** 30)),
        ]:
            self.assert_breach(value, "form")

    def test_first(self):
        for value in [((1,), (2,)), ((2, 1), (2, 2)), ((3, 4), (2, 1)), ((10 ** 50,), (10 ** 50,)), ((2,) * 15, (2,) * 15)]:
            self.assert_breach(value, "first")

    def test_rise(self):
        for value in [
            ((2, 3), (1, 1)), ((1, 2), (1, 1)), ((3, 2, 1), (1, 2, 1)), ((3, 1, 2), (1, 1, 1)), ((4, 3, 3), (1, 3, 2)),
            ((2,) * 14 + (3,), (1,) * 15), ((10 ** 30, 10 ** 30 + 1), (1, 1)),
        ]:
            self.assert_breach(value, "rise")

    def test_sum(self):
        # At the last distance c alone counts.
        for value in [
            ((2, 2), (1, 1)), ((3, 2), (1, 4)), ((1, 1), (1, 1)), ((3, 2, 2), (1, 2, 2)), ((2, 1), (1, 3)),
            ((2,) * 15, (1,) * 15), ((10 ** 30, 10 ** 30), (1, 1)),
        ]:
            self.assert_breach(value, "sum")
        self.assertIsNone(array_breach(((3, 2), (1, 3))))

    def test_cross(self):
        # c(2) is above b(1), though i + j is 3.
        for value in [((4, 1, 1), (1, 2, 2)), ((6, 2, 2), (1, 3, 3)), ((9, 4, 2, 2), (1, 3, 3, 3)), ((9, 3, 3, 2), (1, 1, 4, 4))]:
            self.assert_breach(value, "cross")
        # Here i + j is above the greatest distance.
        self.assertIsNone(array_breach(((4, 1), (1, 2))))
        self.assertIsNone(array_breach(((6, 1), (1, 6))))

    def test_whole(self):
        for value in [((3, 1), (1, 2)), ((5, 2), (1, 3)), ((5, 4, 2), (1, 1, 3)), ((10 ** 30, 1), (1, 3))]:
            self.assert_breach(value, "whole")

    def test_even(self):
        # In the third one only the last distance, with 0 for b, has an odd number.
        for value in [((3, 1), (1, 1)), ((9, 5, 1), (1, 1, 1)), ((5, 2), (1, 2)), ((7, 2), (1, 2))]:
            self.assert_breach(value, "even")
        for value in [((5, 2), (1, 1)), ((3,), (1,)), ((4, 1), (1, 1)), ((5, 2), (1, 5))]:
            self.assert_breach(value, None)

    def test_several_broken_rules(self):
        self.assert_breach(((1, 2), (2, 1)), "first")
        self.assert_breach(((2, 3), (1, 9)), "rise")
        self.assert_breach(((4, 3, 3), (1, 2, 5)), "sum")
        self.assert_breach(((5, 1, 1), (1, 2, 2)), "cross")

    def test_against_the_words_of_the_point(self):
        met = set()
        for seed in range(6000):
            source = random.Random(seed)
            d = source.choice([0, 1, 2, 2, 3, 3, 3, 4])
            further = [source.randint(1, 8) for _ in range(d)]
            nearer = [1] + [source.randint(1, 6) for _ in range(d - 1)] if d else []
            if source.random() < 0.9:
                further, nearer = sorted(further, reverse=True), sorted(nearer)
            value = (tuple(further), tuple(nearer))
            word = plain_array_breach(value)
            self.assert_breach(value, word)
            met.add(word)
        self.assertEqual(met, {None, "rise", "sum", "cross", "whole", "even"})

    def test_array_row(self):
        self.assertEqual(array_row(((), ())), (1,))
        self.assertEqual(array_row(((5,), (1,))), (1, 5))
        self.assertEqual(array_row(((4, 3, 2, 1), (1, 2, 3, 4))), (1, 4, 6, 4, 1))
        self.assertEqual(array_row(((6, 2), (1, 4))), (1, 6, 3))
        self.assertEqual(array_row(((10 ** 40, 10 ** 40 - 1), (1, 10 ** 40))), (1, 10 ** 40, 10 ** 40 - 1))


def plain_array_breach(value):
    """The first broken rule of a value that has the form and begins with c(1) = 1, by the words of the point."""
    d = len(value[0])
    b = dict(enumerate(value[0] + (0,)))
    c = dict(enumerate(value[1], start=1))
    k = {0: 1}
    if any(b[i] > b[i - 1] for i in range(1, d)) or any(c[i] < c[i - 1] for i in range(2, d + 1)):
        return "rise"
    if any(b[i] + c[i] > b[0] for i in range(1, d + 1)):
        return "sum"
    if any(c[i] > b[j] for i in range(1, d + 1) for j in range(d) if i + j <= d):
        return "cross"
    for i in range(1, d + 1):
        if k[i - 1] * b[i - 1] % c[i]:
            return "whole"
        k[i] = k[i - 1] * b[i - 1] // c[i]
    if any(k[i] * (b[0] - b[i] - c[i]) % 2 for i in range(1, d + 1)):
        return "even"
    return None


if __name__ == "__main__":
    unittest.main()
