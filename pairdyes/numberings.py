"""Dyeings with their pairs turned or their places numbered otherwise, and which dyeings are alike."""

from itertools import permutations

from pairdyes.dyeings import dyed, is_number
from pairdyes.errors import TooMany

MOST_LISTED = 7


def turned(dyeing):
    """Returns the dyeing in which each pair has the dye of its turned pair, numbered anew."""
    return dyed(tuple(zip(*dyeing)))


def is_listing(value, n):
    """Tells whether any value is a listing of n numbers."""
    if not isinstance(value, tuple) or len(value) != n or not all([is_number(entry) for entry in value]):
        return False
    return sorted(value) == list(range(n))


def numbered(dyeing, listing):
    """Returns the dyeing whose pair (i, j) has the dye of (listing[i], listing[j]), numbered anew.

    Within the package the listing may also have some of the places only.
    """
    return dyed([[dyeing[x][y] for y in listing] for x in listing])


def least_form(dyeing):
    """Returns the least one, as tuples, of the dyeings that are alike to a dyeing."""
    if len(dyeing) > MOST_LISTED:
        raise TooMany(MOST_LISTED)
    best = dyeing
    for listing in permutations(range(len(dyeing))):
        best = lesser_form(dyeing, listing, best)
    return best


def lesser_form(dyeing, listing, best):
    """Returns the lesser one of the best form so far and `numbered` with the listing."""
    numbers = {}
    rows = []
    is_less = False
    for x, best_row in zip(listing, best):
        row = tuple([numbers.setdefault(dyeing[x][y], len(numbers)) for y in listing])
        # Most listings are given up here, at their first row; this is what makes 7 places quick.
        if not is_less and row > best_row:
            return best
        is_less = is_less or row < best_row
        rows.append(row)
    return tuple(rows)


def are_alike(one, other):
    """Tells whether some listing leads from one dyeing to the other."""
    if len(one) > MOST_LISTED or len(other) > MOST_LISTED:
        raise TooMany(MOST_LISTED)
    return len(one) == len(other) and least_form(one) == least_form(other)
