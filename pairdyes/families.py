"""Families of webs: rings, letters, choices, parts, and the ties of a web."""

from itertools import combinations
from math import comb

from pairdyes.products import check_places, rows_below


def web_of(places, is_tied):
    """Returns the web of places, told by what each stands for, that ties two of which a function tells so."""
    numbers = range(len(places))
    return len(places), tuple([(x, y) for x in numbers for y in numbers if x < y and is_tied(places[x], places[y])])


def ring_web(n):
    """Returns the web of n places around a ring."""
    check_places(n)
    return web_of(list(range(n)), lambda x, y: y - x in (1, n - 1))


def letter_web(k, q):
    """Returns the web of the rows of k integers below q, which ties two that are unlike at just one entry."""
    return web_of(rows_below(q, k), are_unlike_once)


def are_unlike_once(row, other):
    """Tells whether two rows are unlike at just one entry."""
    return [a == b for a, b in zip(row, other)].count(False) == 1


def choice_web(n, k):
    """Returns the web of the choices of k integers below n, which ties two that share all but one of them."""
    check_places(comb(n, k))
    choices = list(combinations(range(n), k))
    return web_of(choices, lambda choice, other: shared_count(choice, other) == k - 1)


def shared_count(one, other):
    """Returns how many entries of the one are entries of the other, too."""
    return len([entry for entry in one if entry in other])


def parts_web(numbers):
    """Returns the web of parts with so many places, which ties two places of unlike parts."""
    check_places(sum(numbers))
    return web_of([part for part, many in enumerate(numbers) for _ in range(many)], lambda part, other: part != other)


def line_web(web):
    """Returns the web of the ties of a web, which ties two that share a place."""
    ties = web[1]
    check_places(len(ties))
    return web_of(ties, lambda tie, other: shared_count(tie, other) > 0)
