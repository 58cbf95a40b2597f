"""All closed dyeings of a few places."""

from itertools import permutations

from pairdyes.groups import group_dyeing
from pairdyes.numberings import least_form


def closed_dyeings(n):
    """Returns all least forms of closed dyeings of n places, ascending."""
    # Each closed dyeing of so few places is alike to the group dyeing of at most two listings.
    listings = list(permutations(range(n)))
    found = {group_dyeing(n, (one, other)): True for one in listings for other in listings}
    return tuple(sorted({least_form(dyeing) for dyeing in found}))
