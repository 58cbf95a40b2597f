"""Leads of dyes: the listings of dyes by which one sheet becomes another one."""

from pairdyes.errors import TooMany

MOST_LED_DYES = 8


def dye_leads(one, other):
    """Returns all listings of the dyes with which the one sheet becomes the other, ascending."""
    r = len(one[1])
    if r > MOST_LED_DYES or len(other[1]) > MOST_LED_DYES:
        raise TooMany(MOST_LED_DYES)
    if r != len(other[1]):
        return ()
    found = [()]
    for _ in range(r):
        longer = [begun + (dye,) for begun in found for dye in range(r) if dye not in begun]
        found = [begun for begun in longer if keeps_last(one, other, begun)]
    return tuple(found)


def is_dye_lead(one, other, listing):
    """Tells whether a listing of the dyes of two sheets is one of the `dye_leads`."""
    return all([keeps_last(one, other, listing[:end + 1]) for end in range(len(listing))])


def keeps_last(one, other, begun):
    """Tells whether the beginning of a listing keeps all that its last entry has a share in."""
    last = len(begun) - 1
    middles, turns, counts = one
    other_middles, other_turns, other_counts = other
    if (last in middles) != (begun[last] in other_middles):
        return False
    if turns[last] <= last and begun[turns[last]] != other_turns[begun[last]]:
        return False
    seen = range(last + 1)
    for k in seen:
        table = counts[k]
        other_table = other_counts[begun[k]]
        if any([table[i][last] != other_table[begun[i]][begun[last]] for i in seen]):
            return False
        if any([table[last][j] != other_table[begun[last]][begun[j]] for j in seen]):
            return False
    table = counts[last]
    other_table = other_counts[begun[last]]
    return all([table[i][j] == other_table[begun[i]][begun[j]] for i in seen for j in seen])
