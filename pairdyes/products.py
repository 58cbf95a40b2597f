"""Dyeings put together, and which even dyeings can be taken apart."""

from itertools import combinations

from pairdyes.dyeings import MOST_PLACES, dyed
from pairdyes.errors import TooMany
from pairdyes.rooms import room_sets
from pairdyes.sheets import degree, sheet_of


def check_places(many):
    """Raises TooMany if there would be too many places; so a great table is not worked out in vain."""
    if many > MOST_PLACES:
        raise TooMany(MOST_PLACES)


def side_by_side(one, other):
    """Returns the dyeing of the places of the one and behind them those of the other."""
    check_places(len(one) + len(other))
    middles = [row[x] for x, row in enumerate(one)]
    far_middles = [row[x] for x, row in enumerate(other)]
    rows = [
        [("one", dye) for dye in row] + [("out", middle, far) for far in far_middles]
        for middle, row in zip(middles, one)
    ]
    far_rows = [
        [("back", far, middle) for middle in middles] + [("other", dye) for dye in row]
        for far, row in zip(far_middles, other)
    ]
    return dyed(rows + far_rows)


def woven(one, other):
    """Returns the dyeing of the pairs of a place of the one and a place of the other, by both their dyes."""
    check_places(len(one) * len(other))
    return dyed([[(dye, far) for dye in row for far in far_row] for row in one for far_row in other])


def nested(one, other):
    """Returns the dyeing of the places of `woven` by the other within like first parts, and else by the one."""
    check_places(len(one) * len(other))
    firsts = range(len(one))
    return dyed([
        [("within", far) if x == u else ("across", one[x][u]) for u in firsts for far in far_row]
        for x in firsts for far_row in other
    ])


def rows_below(n, k):
    """Returns the list of the rows of k integers below n, ascending, if they are not too many to be places."""
    rows = [()]
    for _ in range(k):
        check_places(len(rows) * n)
        rows = [row + (x,) for row in rows for x in range(n)]
    return rows


def power(dyeing, k):
    """Returns the dyeing of the rows of k places by the dyes at all entries, whatever their sequence."""
    rows = rows_below(len(dyeing), k)
    return dyed([[tuple(sorted([dyeing[x][y] for x, y in zip(row, other)])) for other in rows] for row in rows])


def taken_apart(dyeing):
    """Returns all pairs of room sets of which an even dyeing is woven, ascending."""
    sets = [room_set for room_set in room_sets(dyeing) if len(room_set) > 1]
    sheet = sheet_of(dyeing)
    n = len(dyeing)
    return tuple([(one, other) for one, other in combinations(sets, 2) if is_woven_of(sheet, n, one, other)])


def is_woven_of(sheet, n, one, other):
    """Tells whether the even dyeing of n places with a sheet is woven of the rooms of two room sets."""
    if [dye for dye in one if dye in other] != [0]:
        return False
    if room_size(sheet, one) * room_size(sheet, other) != n:
        return False
    return all([is_one_way(sheet[2], i, j) for i in one for j in other])


def room_size(sheet, room_set):
    """Returns the number of places of a room."""
    return sum([degree(sheet, dye) for dye in room_set])


def is_one_way(counts, i, j):
    """Tells whether two dyes, one behind the other in either sequence, lead just once and to one dye."""
    ways = [(table[i][j], table[j][i]) for table in counts]
    return [way for way in ways if way != (0, 0)] == [(1, 1)]
