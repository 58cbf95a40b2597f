"""Joinings: dyes made one, and which joinings of a closed dyeing give closed dyeings."""

from pairdyes.closings import check_closed
from pairdyes.dyeings import dye_count, dyed, is_ascending
from pairdyes.errors import NotJoining, NotLeads, TooMany
from pairdyes.numberings import is_listing
from pairdyes.orders import dye_pairs, leaders_by, links_of, parts_by
from pairdyes.sheetleads import MOST_LED_DYES, is_dye_lead
from pairdyes.sheets import sheet_of

MOST_JOINED = 7


def joined_dyes(dyeing, joining):
    """Returns the dyeing in which the dyes of each part of a joining are made one."""
    if not is_joining(joining, dye_count(dyeing)):
        raise NotJoining("the value is no joining of the dyeing")
    parts = part_indices(joining)
    return dyed([[parts[dye] for dye in row] for row in dyeing])


def is_joining(value, r):
    """Tells whether any value is a joining of r dyes."""
    if not isinstance(value, tuple) or not all([is_ascending(part, r) and len(part) > 0 for part in value]):
        return False
    return list(value) == sorted(value) and sorted([dye for part in value for dye in part]) == list(range(r))


def is_joining_with_zero(value, r):
    """Tells whether any value is a joining of r dyes, r being at least 1, that leaves the dye 0 alone."""
    return is_joining(value, r) and value[0] == (0,)


def part_indices(joining):
    """Returns for each dye the index of its part."""
    return {dye: at for at, part in enumerate(joining) for dye in part}


def joining_of(dyeing, other):
    """Returns the joining of a dyeing with which it gives another one that it is within."""
    partners = {dye: partner for dye, partner in dye_pairs(dyeing, other)}
    return parts_by([partners[dye] for dye in range(len(partners))])


def closed_joinings(dyeing):
    """Returns all joinings of a closed dyeing that give closed dyeings, ascending."""
    check_closed(dyeing)
    r = dye_count(dyeing)
    if r > MOST_JOINED:
        raise TooMany(MOST_JOINED)
    sheet = sheet_of(dyeing)
    return tuple([joining for joining in all_joinings(r) if is_closed_joining(sheet, joining)])


def all_joinings(r):
    """Returns the list of all joinings of r dyes, ascending."""
    found = [()]
    for dye in range(r):
        apart = [joining + ((dye,),) for joining in found]
        added = [
            joining[:at] + (part + (dye,),) + joining[at + 1:] for joining in found for at, part in enumerate(joining)
        ]
        found = apart + added
    return sorted(found)


def is_closed_joining(sheet, joining):
    """Tells whether a joining of the dyeing of a sheet gives a closed dyeing."""
    middles, turns, counts = sheet
    parts = part_indices(joining)
    # It does if all dyes of a part agree in all that the three conditions for closed dyeings are about.
    for part in joining:
        if len({(dye in middles, parts[turns[dye]]) for dye in part}) > 1:
            return False
    for part in joining:
        if len({joined_counts(counts[dye], joining) for dye in part}) > 1:
            return False
    return True


def joined_counts(table, joining):
    """Returns the sums of a table of counts over each two parts."""
    return tuple([sum([table[i][j] for i in part for j in other]) for part in joining for other in joining])


def led_joining(dyeing, listings):
    """Returns the joining in which dyes are in one part if one comes from the other by leads of the sheet."""
    check_closed(dyeing)
    r = dye_count(dyeing)
    if r > MOST_LED_DYES:
        raise TooMany(MOST_LED_DYES)
    sheet = sheet_of(dyeing)
    if not isinstance(listings, tuple) or not all([is_own_lead(sheet, listing) for listing in listings]):
        raise NotLeads("the value is no tuple of leads of the sheet")
    return parts_by(leaders_by(r, links_of(listings)))


def is_own_lead(sheet, value):
    """Tells whether any value is a lead of dyes from a sheet to itself."""
    return is_listing(value, len(sheet[1])) and is_dye_lead(sheet, sheet, value)
