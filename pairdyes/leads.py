"""Leads: the listings by which one dyeing becomes another one."""

from itertools import permutations

from pairdyes.errors import TooMany

MOST_LED = 7


def leads(one, other):
    """Returns all listings p for which `numbered(other, p)` is the one, ascending."""
    if len(one) > MOST_LED or len(other) > MOST_LED:
        raise TooMany(MOST_LED)
    if len(one) != len(other):
        return ()
    return tuple([listing for listing in permutations(range(len(one))) if is_lead(one, other, listing)])


def is_lead(one, other, listing):
    """Tells whether `numbered(other, listing)` is the one."""
    numbers = {}
    for x, row in zip(listing, one):
        # Most listings are given up here, at their first rows; this is what makes 7 places quick.
        if [numbers.setdefault(other[x][y], len(numbers)) for y in listing] != list(row):
            return False
    return True
