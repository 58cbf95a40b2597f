"""Which dyeings are finer or coarser than others, and how numbers that are made one are parted."""

from pairdyes.dyeings import dye_count, dyed
from pairdyes.errors import NotFit


def check_fit(one, other):
    """Raises NotFit for two dyeings with unlike numbers of places."""
    if len(one) != len(other):
        raise NotFit("the dyeings have unlike numbers of places")


def dye_pairs(one, other):
    """Returns, pair by pair in the sequence of reading, its dye in the one and its dye in the other."""
    return [dyes for rows in zip(one, other) for dyes in zip(rows[0], rows[1])]


def is_within(one, other):
    """Tells whether any two pairs that have one dye in the one have one dye in the other."""
    check_fit(one, other)
    partners = {}
    for dye, partner in dye_pairs(one, other):
        if partners.setdefault(dye, partner) != partner:
            return False
    return True


def met(one, other):
    """Returns the dyeing in which two pairs have one dye exactly if they have one dye in both."""
    check_fit(one, other)
    return dyed([list(zip(row, partners)) for row, partners in zip(one, other)])


def joined(one, other):
    """Returns the finest dyeing that both dyeings are within."""
    check_fit(one, other)
    firsts = {}
    links = [(firsts.setdefault(partner, dye), dye) for dye, partner in dye_pairs(one, other)]
    leaders = leaders_by(dye_count(one), links)
    return dyed([[leaders[dye] for dye in row] for row in one])


def leaders_by(many, links):
    """Returns, for each number below `many`, the least one of those that the links make one with it."""
    leaders = list(range(many))
    for one, other in links:
        low, high = sorted((leader_of(leaders, one), leader_of(leaders, other)))
        leaders[high] = low
    return [leader_of(leaders, number) for number in range(many)]


def leader_of(leaders, number):
    """Returns the one number to which all numbers that were made one with a number lead."""
    while leaders[number] != number:
        # Going two ways at once from then on keeps all ways short.
        leaders[number] = leaders[leaders[number]]
        number = leaders[number]
    return number


def links_of(listings):
    """Returns the links that make each number one with the number to which each of the listings takes it."""
    return [link for listing in listings for link in enumerate(listing)]


def parts_by(keys):
    """Returns the indices of the keys, parted by the keys: ascending tuples, ascending."""
    parts = {}
    for at, key in enumerate(keys):
        parts.setdefault(key, []).append(at)
    return tuple([tuple(part) for part in parts.values()])
