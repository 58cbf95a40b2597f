"""Which dyeings are finer or coarser than others."""

from pairdyes.dyeings import dye_count, dyed
from pairdyes.errors import NotFit


def check_fit(one, other):
    """Raises NotFit for two dyeings with unlike numbers of places."""
    if len(one) != len(other):
        raise NotFit("the dyeings have unlike numbers of places")


def dye_pairs(one, other):
    """Returns, pair by pair in the sequence of reading, its dye in the one and its dye in the other."""
    return [dyes for rows in zip(one, other) for dyes in zip(rows[0], rows[1])]


def is_within(one, other):
    """Tells whether any two pairs that have one dye in the one have one dye in the other."""
    check_fit(one, other)
    partners = {}
    for dye, partner in dye_pairs(one, other):
        if partners.setdefault(dye, partner) != partner:
            return False
    return True


def met(one, other):
    """Returns the dyeing in which two pairs have one dye exactly if they have one dye in both."""
    check_fit(one, other)
    return dyed([list(zip(row, partners)) for row, partners in zip(one, other)])


def joined(one, other):
    """Returns the finest dyeing that both dyeings are within."""
    check_fit(one, other)
    leaders = list(range(dye_count(one)))
    firsts = {}
    for dye, partner in dye_pairs(one, other):
        first = leader_of(leaders, firsts.setdefault(partner, dye))
        leaders[leader_of(leaders, dye)] = first
    return dyed([[leader_of(leaders, dye) for dye in row] for row in one])


def leader_of(leaders, dye):
    """Returns the one dye to which all dyes that were made one with a dye lead."""
    while leaders[dye] != dye:
        dye = leaders[dye]
    return dye
