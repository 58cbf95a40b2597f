"""Dyeings that several tests use, and slow, plain ways to work out what the package should return."""

import random

# Two places in one lot; a way of three places; three places with a dye for the middle and one for the rest.
TWO = ((0, 1), (1, 0))
WAY = ((0, 1, 2), (1, 0, 1), (2, 1, 0))
THREE = ((0, 1, 1), (1, 0, 1), (1, 1, 0))


def plain_dyed(table):
    """`dyed` by looking each entry up in the list of those met ahead."""
    ahead = []
    for row in table:
        for entry in row:
            if entry not in ahead:
                ahead.append(entry)
    return tuple(tuple(ahead.index(entry) for entry in row) for row in table)


def even_dyeing(n):
    """The dyeing of n places with one dye at the middle pairs and one elsewhere."""
    return plain_dyed([[int(x != y) for y in range(n)] for x in range(n)])


def single_dyeing(n):
    """The dyeing of n places with one dye at all pairs."""
    return tuple((0,) * n for _ in range(n))


def full_dyeing(n):
    """The dyeing of n places with a dye for each pair."""
    return tuple(tuple(n * x + y for y in range(n)) for x in range(n))


def ring_dyeing(n):
    """The dyeing of n places by y - x around a ring."""
    return plain_dyed([[(y - x) % n for y in range(n)] for x in range(n)])


def way_dyeing(n):
    """The dyeing of n places in a row: middle pairs, neighbours, and all others."""
    return plain_dyed([[min(abs(x - y), 2) for y in range(n)] for x in range(n)])


def random_dyeing(seed, n, dyes):
    """A dyeing of n places with at most so many dyes; the same one for each seed."""
    source = random.Random(seed)
    return plain_dyed([[source.randrange(dyes) for _ in range(n)] for _ in range(n)])


def random_listing(seed, n):
    """A listing of n numbers; the same one for each seed."""
    listing = list(range(n))
    random.Random(seed).shuffle(listing)
    return tuple(listing)


def some_dyeings(most=6):
    """Dyeings of 0 to `most` places of several sorts."""
    found = []
    for n in range(most + 1):
        found += [even_dyeing(n), single_dyeing(n), full_dyeing(n), ring_dyeing(n), way_dyeing(n)]
        found += [random_dyeing(100 * n + dyes, n, dyes) for dyes in (2, 3, 5)]
    return found


def all_dyeings(n):
    """All dyeings of n places, n up to 3."""
    rows = [()]
    for _ in range(n * n):
        rows = [row + (dye,) for row in rows for dye in range(max(row, default=-1) + 2)]
    return [tuple(row[n * x:n * x + n] for x in range(n)) for row in rows]


def pairs(dyeing):
    """All pairs of places of a dyeing, ascending."""
    return [(x, y) for x in range(len(dyeing)) for y in range(len(dyeing))]


def plain_dye_count(dyeing):
    """The number of dyes by collecting them."""
    return len({dye for row in dyeing for dye in row})


def between_count(dyeing, i, j, x, y):
    """The number of places z with (x, z) of the dye i and (z, y) of the dye j."""
    return sum(1 for z in range(len(dyeing)) if dyeing[x][z] == i and dyeing[z][y] == j)


def plain_closed_breach(dyeing):
    """`closed_breach` condition by condition, dye by dye."""
    r = plain_dye_count(dyeing)
    of = [[(x, y) for x, y in pairs(dyeing) if dyeing[x][y] == dye] for dye in range(r)]
    for dye in range(r):
        if len({x == y for x, y in of[dye]}) > 1:
            return ("middle", dye)
    for dye in range(r):
        if len({dyeing[y][x] for x, y in of[dye]}) > 1:
            return ("turned", dye)
    for i in range(r):
        for j in range(r):
            for k in range(r):
                if len({between_count(dyeing, i, j, x, y) for x, y in of[k]}) > 1:
                    return ("count", i, j, k)
    return None


def plain_within(one, other):
    """Whether one dyeing is within another one, by looking at all two pairs."""
    return all(
        other[x][y] == other[u][v]
        for x, y in pairs(one) for u, v in pairs(one)
        if one[x][y] == one[u][v]
    )
