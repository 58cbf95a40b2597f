"""[43]: rings, letters, choices, parts and lines."""

import time
import unittest
from itertools import combinations, product
from math import comb

from pairdyes.errors import TooMany
from pairdyes.families import choice_web, letter_web, line_web, parts_web, ring_web
from pairdyes.products import power
from pairdyes.webs import array_of, distance_dyeing
from tests import samples


def web_by(places, is_tied):
    """The web of places told by what they stand for."""
    ties = [(x, y) for x, y in combinations(range(len(places)), 2) if is_tied(places[x], places[y])]
    return len(places), tuple(ties)


class FamiliesTest(unittest.TestCase):
    def assert_too_many(self, function, *rest):
        begun = time.perf_counter()
        with self.assertRaises(TooMany) as caught:
            function(*rest)
        self.assertEqual(caught.exception.limit, 16)
        self.assertLess(time.perf_counter() - begun, 5)

    def assert_web(self, web):
        """Checks that a value has the form of a web."""
        n, ties = web
        self.assertEqual((type(web), type(n), type(ties)), (tuple, int, tuple))
        self.assertEqual(list(ties), sorted(set(ties)))
        self.assertTrue(all(type(tie) is tuple and 0 <= tie[0] < tie[1] < n for tie in ties))

    def test_rings(self):
        self.assertEqual(ring_web(3), (3, ((0, 1), (0, 2), (1, 2))))
        self.assertEqual(ring_web(5), (5, ((0, 1), (0, 4), (1, 2), (2, 3), (3, 4))))
        for n in range(3, 17):
            ties = {tuple(sorted((x, (x + 1) % n))) for x in range(n)}
            self.assertEqual(ring_web(n), (n, tuple(sorted(ties))))
            self.assert_web(ring_web(n))
            self.assertEqual(len(ring_web(n)[1]), n)
            self.assertEqual(sum(array_of(ring_web(n))[0]), n // 2 + 1)
            self.assertEqual(distance_dyeing(ring_web(n)), samples.hoop_dyeing(n))
        for n in (17, 18, 1000, 10 ** 9):
            self.assert_too_many(ring_web, n)

    def test_letters(self):
        self.assertEqual(letter_web(1, 2), (2, ((0, 1),)))
        self.assertEqual(letter_web(1, 3), (3, ((0, 1), (0, 2), (1, 2))))
        self.assertEqual(letter_web(2, 2), (4, ((0, 1), (0, 2), (1, 3), (2, 3))))
        for k, q in [(1, 2), (1, 7), (1, 16), (2, 2), (2, 3), (2, 4), (3, 2), (4, 2)]:
            rows = list(product(range(q), repeat=k))
            web = letter_web(k, q)
            self.assertEqual(web, web_by(rows, lambda one, other: sum(a != b for a, b in zip(one, other)) == 1))
            self.assert_web(web)
            self.assertEqual(distance_dyeing(web), power(samples.even_dyeing(q), k))
            expected = (tuple((k - i) * (q - 1) for i in range(k)), tuple(range(1, k + 1)))
            self.assertEqual(array_of(web), expected)
        for k, q in [(1, 17), (2, 5), (3, 3), (4, 3), (2, 16), (3, 16), (4, 16), (5, 2), (2, 10 ** 9), (40, 2)]:
            self.assert_too_many(letter_web, k, q)

    def test_choices(self):
        self.assertEqual(choice_web(1, 1), (1, ()))
        self.assertEqual(choice_web(2, 1), (2, ((0, 1),)))
        self.assertEqual(choice_web(3, 2), (3, ((0, 1), (0, 2), (1, 2))))
        self.assertEqual(choice_web(4, 2)[1][:5], ((0, 1), (0, 2), (0, 3), (0, 4), (1, 2)))
        self.assertNotIn((0, 5), choice_web(4, 2)[1])
        for n in range(1, 17):
            for k in range(1, n + 1):
                if comb(n, k) > 16:
                    self.assert_too_many(choice_web, n, k)
                    continue
                choices = list(combinations(range(n), k))
                web = choice_web(n, k)
                self.assertEqual(web, web_by(choices, lambda one, other: len(set(one) & set(other)) == k - 1))
                self.assert_web(web)
                if 2 * k <= n:
                    expected = (tuple((k - i) * (n - k - i) for i in range(k)), tuple(i * i for i in range(1, k + 1)))
                    self.assertEqual(array_of(web), expected)
        self.assertEqual(choice_web(16, 1), parts_web((1,) * 16))
        self.assertEqual(choice_web(16, 16), (1, ()))
        for n, k in [(17, 1), (18, 17), (16, 8), (100, 50)]:
            self.assert_too_many(choice_web, n, k)

    def test_parts(self):
        self.assertEqual(parts_web(()), (0, ()))
        self.assertEqual(parts_web((1,)), (1, ()))
        self.assertEqual(parts_web((16,)), (16, ()))
        self.assertEqual(parts_web((1, 1)), (2, ((0, 1),)))
        self.assertEqual(parts_web((1, 2)), (3, ((0, 1), (0, 2))))
        self.assertEqual(parts_web((2, 1, 1)), (4, ((0, 2), (0, 3), (1, 2), (1, 3), (2, 3))))
        self.assertEqual(len(parts_web((1,) * 16)[1]), 120)
        for numbers in [(3, 3), (5, 1, 4), (8, 8), (2, 2, 2, 2), (1, 15), (4, 4, 4, 4), (7,)]:
            places = [part for part, many in enumerate(numbers) for _ in range(many)]
            self.assertEqual(parts_web(numbers), web_by(places, lambda one, other: one != other))
            self.assert_web(parts_web(numbers))
        for numbers in [(17,), (16, 1), (1,) * 17, (8, 9), (10 ** 12,), (1, 10 ** 12)]:
            self.assert_too_many(parts_web, numbers)

    def test_lines(self):
        self.assertEqual(line_web((0, ())), (0, ()))
        self.assertEqual(line_web((16, ())), (0, ()))
        self.assertEqual(line_web((2, ((0, 1),))), (1, ()))
        self.assertEqual(line_web((3, ((0, 1), (1, 2)))), (2, ((0, 1),)))
        self.assertEqual(line_web((4, ((0, 1), (2, 3)))), (2, ()))
        self.assertEqual(line_web((4, ((0, 3), (1, 2), (1, 3)))), (3, ((0, 2), (1, 2))))
        webs = [ring_web(n) for n in range(3, 17)] + [letter_web(2, 2), letter_web(3, 2), choice_web(4, 2)]
        webs += [parts_web((4, 4)), parts_web((1, 15)), (16, tuple((x, x + 1) for x in range(15)))]
        for web in webs:
            told = line_web(web)
            self.assertEqual(told, web_by(web[1], lambda one, other: bool(set(one) & set(other))))
            self.assert_web(told)
        for n in range(3, 17):
            self.assertEqual(sorted(map(len, line_web(ring_web(n))[1])), [2] * n)
        self.assertEqual(line_web(choice_web(4, 1)), choice_web(4, 2))
        self.assertEqual(len(line_web((16, tuple((0, x) for x in range(1, 16))))[1]), 105)

    def test_lines_of_too_many_ties(self):
        for web in [parts_web((4, 4)), ring_web(16)]:
            self.assertEqual(line_web(web)[0], 16)
        for web in [letter_web(2, 4), parts_web((1,) * 16), choice_web(6, 2), (16, ring_web(16)[1] + ((5, 9),))]:
            self.assertGreater(len(web[1]), 16)
            self.assert_too_many(line_web, (web[0], tuple(sorted(web[1]))))


if __name__ == "__main__":
    unittest.main()
