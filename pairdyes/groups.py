"""Dyeings of which moves, or any listings, tell which pairs have one dye."""

from pairdyes.dyeings import dyed
from pairdyes.moves import move_generators
from pairdyes.orders import leaders_by


def move_dyeing(dyeing):
    """Returns the dyeing in which two pairs have one dye exactly if a move takes one to the other."""
    return group_dyeing(len(dyeing), move_generators(dyeing))


def group_dyeing(n, listings):
    """Returns the dyeing in which two pairs have one dye exactly if one comes from the other by the listings."""
    places = range(n)
    links = [(n * x + y, n * listing[x] + listing[y]) for listing in listings for x in places for y in places]
    leaders = leaders_by(n * n, links)
    return dyed([leaders[n * x:n * x + n] for x in places])
