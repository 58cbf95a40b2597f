"""Marked places, the parts of the places, and the least places whose marks part all pairs."""

from itertools import combinations

from pairdyes.closings import closing
from pairdyes.dyeings import dye_count, dyed
from pairdyes.errors import TooMany
from pairdyes.orders import parts_by

MOST_BASED = 8


def marked(dyeing, places):
    """Returns the dyeing in which the middle pair of each of the places has a dye of its own."""
    table = [list(row) for row in dyeing]
    for x in places:
        # No dye is below 0, so no other pair has this entry.
        table[x][x] = -1 - x
    return dyed(table)


def place_parts(dyeing):
    """Returns the places, parted by the dyes of their middle pairs in the closing."""
    return parts_by([row[x] for x, row in enumerate(closing(dyeing))])


def parts_all(dyeing, places):
    """Tells whether marking the places gives each pair a dye of its own in the closing."""
    return dye_count(closing(marked(dyeing, places))) == len(dyeing) * len(dyeing)


def least_base(dyeing):
    """Returns the first tuple of places, by their number and then as tuples, that parts all."""
    n = len(dyeing)
    if n > MOST_BASED:
        raise TooMany(MOST_BASED)
    # Marking the closing instead gives the same closings, in fewer rounds.
    closed = closing(dyeing)
    for many in range(n):
        for places in combinations(range(n), many):
            if parts_all(closed, places):
                return places
    return tuple(range(n))
