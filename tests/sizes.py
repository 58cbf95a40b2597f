"""Sizes and cuts that several tests use, and slow, plain ways to add their numbers."""

import random
from itertools import product

from tests.samples import plain_joinings

# No size, one to four sizes, and up to sixteen numbers.
FEW_SIZES = [(), (2,), (3,), (4,), (5,), (6,), (7,), (8,), (2, 2), (2, 3), (3, 2), (2, 4), (4, 2), (2, 2, 2)]
ALL_SIZES = FEW_SIZES + [
    (9,), (12,), (13,), (15,), (16,), (3, 3), (2, 6), (3, 4), (3, 5), (2, 8), (8, 2), (4, 4), (2, 2, 3), (2, 3, 2),
    (2, 2, 4), (4, 2, 2), (2, 2, 2, 2),
]


def rows_of(sizes):
    """The rows for which the numbers stand, in their sequence."""
    return list(product(*[range(size) for size in sizes]))


def plain_added(sizes, a, b):
    """The number of the sum of the rows of two numbers, by looking it up."""
    rows = rows_of(sizes)
    return rows.index(tuple((one + other) % size for one, other, size in zip(rows[a], rows[b], sizes)))


def plain_negative(sizes, a):
    """The number whose sum with a number is 0, by looking it up."""
    rows = rows_of(sizes)
    return rows.index(tuple(-entry % size for entry, size in zip(rows[a], sizes)))


def fine_cut(n):
    """The cut into n parts."""
    return tuple((number,) for number in range(n))


def random_cut(seed, n, many):
    """A cut of n numbers with at most so many parts besides the first one; the same one for each seed."""
    source = random.Random(seed)
    parts = [[] for _ in range(many)]
    for number in range(1, n):
        parts[source.randrange(many)].append(number)
    return ((0,),) + tuple(sorted(tuple(part) for part in parts if part))


def all_cuts(n):
    """All cuts of n numbers."""
    return [
        ((0,),) + tuple(sorted(tuple(sorted(part)) for part in parts))
        for parts in plain_joinings(tuple(range(1, n)))
    ]
