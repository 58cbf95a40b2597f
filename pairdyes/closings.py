"""Closed dyeings, and the coarsest closed dyeing within a dyeing, found by counting rounds."""

from pairdyes.dyeings import dye_count, dyed
from pairdyes.errors import NotClosed


def between_table(dyeing):
    """Returns the table that tells, for each pair (x, y), what stands between its places.

    That is the list, by size, of the numbers r I + J with the dyes I and J of (x, z) and (z, y),
    one for each place z. Two pairs have equal entries exactly if they have equal counts for all I and J.
    """
    r = dye_count(dyeing)
    columns = list(zip(*dyeing))
    return [[tuple(sorted([r * i + j for i, j in zip(row, column)])) for column in columns] for row in dyeing]


def closed_breach(dyeing):
    """Returns None for a closed dyeing, and otherwise the first breach, with its least dye or triple."""
    breach = middle_breach(dyeing)
    if breach is None:
        breach = turned_breach(dyeing)
    if breach is None:
        breach = count_breach(dyeing)
    return breach


def middle_breach(dyeing):
    """Returns the breach of the least dye that has a middle pair and another pair, or None."""
    places = range(len(dyeing))
    middles = [dyeing[x][x] for x in places]
    mixed = [dyeing[x][y] for x in places for y in places if x != y and dyeing[x][y] in middles]
    return ("middle", min(mixed)) if mixed else None


def turned_breach(dyeing):
    """Returns the breach of the least dye of which two pairs have turned pairs of unlike dyes, or None."""
    backs = {}
    broken = []
    for row, column in zip(dyeing, list(zip(*dyeing))):
        for dye, back in zip(row, column):
            if backs.setdefault(dye, back) != back:
                broken.append(dye)
    return ("turned", min(broken)) if broken else None


def count_breach(dyeing):
    """Returns the breach of the least triple of dyes that breaks the third condition, or None."""
    r = dye_count(dyeing)
    firsts = {}
    broken = []
    for row, between_row in zip(dyeing, between_table(dyeing)):
        for dye, between in zip(row, between_row):
            first = firsts.setdefault(dye, between)
            if first != between:
                broken.append((least_uneven(first, between), dye))
    if not broken:
        return None
    uneven, dye = min(broken)
    return ("count", uneven // r, uneven % r, dye)


def least_uneven(one, other):
    """Returns the least number that two unlike rows of one length, put by size, do not have equally often."""
    # Ahead of the first unlike entries both rows are the same, and behind them no entry is less than these.
    return min([min(a, b) for a, b in zip(one, other) if a != b])


def is_closed(dyeing):
    """Tells whether a dyeing is closed."""
    return closed_breach(dyeing) is None


def check_closed(dyeing):
    """Raises NotClosed for a dyeing that is not closed."""
    if not is_closed(dyeing):
        raise NotClosed("the dyeing is not closed")


def begun(dyeing):
    """Returns the dyeing parted by the dyes of the pairs, those of the turned pairs, and being a middle pair."""
    places = range(len(dyeing))
    return dyed([[(dyeing[x][y], dyeing[y][x], x == y) for y in places] for x in places])


def next_round(dyeing):
    """Returns the dyeing parted by the dyes of the pairs and by what stands between their places."""
    return dyed([list(zip(row, between_row)) for row, between_row in zip(dyeing, between_table(dyeing))])


def rounds_of(dyeing):
    """Returns the list of `begun` and of what each round gives that raises the number of dyes."""
    rounds = [begun(dyeing)]
    later = next_round(rounds[-1])
    while dye_count(later) > dye_count(rounds[-1]):
        rounds.append(later)
        later = next_round(later)
    return rounds


def closing(dyeing):
    """Returns the coarsest closed dyeing within a dyeing."""
    return rounds_of(dyeing)[-1]


def round_row(dyeing):
    """Returns the numbers of dyes of `begun` and of each round that raises it."""
    return tuple([dye_count(told) for told in rounds_of(dyeing)])
