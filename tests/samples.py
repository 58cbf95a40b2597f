"""Dyeings that several tests use, and slow, plain ways to work out what the package should return."""

import random
from itertools import permutations

from pairdyes.closings import closing

# Two places in one lot; a way of three places; three places with a dye for the middle and one for the rest.
TWO = ((0, 1), (1, 0))
WAY = ((0, 1, 2), (1, 0, 1), (2, 1, 0))
THREE = ((0, 1, 1), (1, 0, 1), (1, 1, 0))


def plain_dyed(table):
    """`dyed` by looking each entry up in the list of those met ahead."""
    ahead = []
    for row in table:
        for entry in row:
            if entry not in ahead:
                ahead.append(entry)
    return tuple(tuple(ahead.index(entry) for entry in row) for row in table)


def even_dyeing(n):
    """The dyeing of n places with one dye at the middle pairs and one elsewhere."""
    return plain_dyed([[int(x != y) for y in range(n)] for x in range(n)])


def single_dyeing(n):
    """The dyeing of n places with one dye at all pairs."""
    return tuple((0,) * n for _ in range(n))


def full_dyeing(n):
    """The dyeing of n places with a dye for each pair."""
    return tuple(tuple(n * x + y for y in range(n)) for x in range(n))


def ring_dyeing(n):
    """The dyeing of n places by y - x around a ring."""
    return plain_dyed([[(y - x) % n for y in range(n)] for x in range(n)])


def way_dyeing(n):
    """The dyeing of n places in a row: middle pairs, neighbours, and all others."""
    return plain_dyed([[min(abs(x - y), 2) for y in range(n)] for x in range(n)])


def tied_dyeing(n, is_tied):
    """The dyeing of n places with a dye at the middle pairs, one at the ties, and one at all others."""
    return plain_dyed([[0 if x == y else 1 if is_tied(x, y) else 2 for y in range(n)] for x in range(n)])


def hoop_dyeing(n):
    """The dyeing of n places by their distance around a ring."""
    return plain_dyed([[min((y - x) % n, (x - y) % n) for y in range(n)] for x in range(n)])


def cube_dyeing(k):
    """The dyeing of 2 ** k places by the number of binary digits at which they are unlike."""
    return plain_dyed([[(x ^ y).bit_count() for y in range(2 ** k)] for x in range(2 ** k)])


def xor_dyeing(k):
    """The dyeing of 2 ** k places by the binary digits at which they are unlike: 2 ** k dyes."""
    return plain_dyed([[x ^ y for y in range(2 ** k)] for x in range(2 ** k)])


def blocks_dyeing(n, m):
    """The dyeing of n places in blocks of m: middle pairs, pairs in a block, and all others."""
    return tied_dyeing(n, lambda x, y: x // m == y // m)


def shrikhande_dyeing():
    """A dyeing of 16 places that is closed and has three dyes, though moves part the pairs into four sorts."""
    steps = {(0, 1), (0, 3), (1, 0), (3, 0), (1, 1), (3, 3)}
    return tied_dyeing(16, lambda x, y: ((x // 4 - y // 4) % 4, (x - y) % 4) in steps)


def rook_dyeing():
    """The dyeing of a board of 4 times 4 by the ways of a rook; its counts are those of `shrikhande_dyeing`."""
    return tied_dyeing(16, lambda x, y: (x // 4 == y // 4) != (x % 4 == y % 4))


def petersen_dyeing():
    """The dyeing of the ten pairs of five things: the same, without a common thing, and all others."""
    things = [(a, b) for b in range(5) for a in range(b)]
    return tied_dyeing(10, lambda x, y: not set(things[x]) & set(things[y]))


def listings_dyeing(listings):
    """The dyeing of the listings of a group by what leads from one to the other one."""
    listings = sorted(listings)
    n = len(listings[0])

    def back(one):
        return tuple(one.index(x) for x in range(n))

    return plain_dyed([[tuple(back(one)[other[x]] for x in range(n)) for other in listings] for one in listings])


def swaps_dyeing():
    """The dyeing of the six listings of three numbers: six dyes, of which some differ by their sequence."""
    return listings_dyeing(permutations(range(3)))


def turns_dyeing():
    """The dyeing of the twelve even listings of four numbers."""
    even = [p for p in permutations(range(4)) if sum(p[i] > p[j] for j in range(4) for i in range(j)) % 2 == 0]
    return listings_dyeing(even)


def even_dyeings():
    """Even dyeings of 1 to 16 places of many sorts."""
    found = [even_dyeing(n) for n in (1, 2, 3, 5, 8, 16)]
    found += [ring_dyeing(n) for n in (3, 4, 6, 8, 9, 12, 16)]
    found += [hoop_dyeing(n) for n in (4, 5, 6, 7, 8, 12, 13)]
    found += [cube_dyeing(k) for k in (2, 3, 4)] + [xor_dyeing(k) for k in (2, 3, 4)]
    found += [blocks_dyeing(4, 2), blocks_dyeing(6, 2), blocks_dyeing(6, 3), blocks_dyeing(12, 4)]
    return found + [shrikhande_dyeing(), rook_dyeing(), petersen_dyeing(), swaps_dyeing(), turns_dyeing()]


def plain_dyeings():
    """Plain dyeings of 1 to 16 places of many sorts, some of them with their places numbered otherwise."""
    found = [even_dyeing(n) for n in (1, 2, 3, 5, 8, 16)] + [hoop_dyeing(4), hoop_dyeing(6)]
    found += [cube_dyeing(k) for k in (2, 3, 4)] + [xor_dyeing(k) for k in (2, 3, 4)]
    found += [blocks_dyeing(4, 2), blocks_dyeing(6, 2), blocks_dyeing(6, 3), blocks_dyeing(12, 4)]
    found += [shrikhande_dyeing(), rook_dyeing(), petersen_dyeing(), halves_dyeing()]
    return found + [plain_numbered(dyeing, random_listing(len(dyeing), len(dyeing))) for dyeing in found[3::2]]


def halves_dyeing():
    """The plain dyeing of 16 places by y - x around a ring, made one where one is an odd number times the other."""
    sorts = [0, 1, 2, 1, 3, 1, 2, 1, 4, 1, 2, 1, 3, 1, 2, 1]
    return plain_dyed([[sorts[(y - x) % 16] for y in range(16)] for x in range(16)])


def even_not_plain():
    """Even dyeings that are not plain: with dyes that are not their own turned ones, and with too few shades."""
    found = [ring_dyeing(n) for n in (3, 4, 6, 16)] + [swaps_dyeing(), turns_dyeing()]
    return found + [hoop_dyeing(n) for n in (5, 7, 8, 9, 10, 13, 16)]


def not_even():
    """Dyeings that are not even: empty, not closed, or with several dyes at the middle pairs."""
    several = ((0, 1, 1), (2, 3, 4), (2, 4, 3))
    return [(), WAY, ((0, 0), (0, 0)), ((0, 1), (2, 3)), several, way_dyeing(16), single_dyeing(16), full_dyeing(16)]


def plain_counts(dyeing):
    """The counts c(K; I, J) of a closed dyeing, as a dict, each by looking at one pair of the dye K."""
    r = plain_dye_count(dyeing)
    first = {dyeing[x][y]: (x, y) for x, y in pairs(dyeing)}
    return {
        (k, i, j): between_count(dyeing, i, j, *first[k]) for k in range(r) for i in range(r) for j in range(r)
    }


def plain_degrees(dyeing):
    """The degrees of an even dyeing: how often each dye stands in the first row."""
    return [dyeing[0].count(dye) for dye in range(plain_dye_count(dyeing))]


def closed_dyeings(most=6):
    """Closed dyeings of 0 to `most` places of several sorts, each once."""
    found = [closing(dyeing) for dyeing in some_dyeings(most)]
    found += [dyeing for dyeing in even_dyeings() if len(dyeing) <= most]
    # These have several lots.
    found += [plain_marked(even_dyeing(n), k) for n in range(2, most + 1) for k in range(1, n)]
    return sorted(set(found))


def plain_marked(dyeing, many):
    """The closing of a dyeing of which the first so many places get another dye at their middle pairs."""
    table = [[(dye, x == y and x < many) for y, dye in enumerate(row)] for x, row in enumerate(dyeing)]
    return closing(plain_dyed(table))


def plain_moves(dyeing):
    """All moves by trying all listings."""
    n = len(dyeing)
    return tuple(
        p for p in permutations(range(n))
        if all(dyeing[p[x]][p[y]] == dyeing[x][y] for x in range(n) for y in range(n))
    )


def plain_numbered(dyeing, listing):
    """`numbered` pair by pair."""
    return plain_dyed([[dyeing[x][y] for y in listing] for x in listing])


def plain_joinings(dyes):
    """All ways to part some dyes, as sets of sets: each dye on its own, or with some of the parts of the others."""
    if not dyes:
        return {frozenset()}
    found = set()
    for parts in plain_joinings(dyes[1:]):
        found.add(parts | {frozenset({dyes[0]})})
        for part in parts:
            found.add((parts - {part}) | {part | {dyes[0]}})
    return found


def plain_groups(many, listings):
    """The numbers below `many`, parted by what the listings take to each other, by walking from each of them."""
    parts = set()
    for start in range(many):
        part = [start]
        for number in part:
            for listing in listings:
                for other in (listing[number], listing.index(number)):
                    if other not in part:
                        part.append(other)
        parts.add(tuple(sorted(part)))
    return tuple(sorted(parts))


# Values that are no tuple, no integer and no string that any point asks for.
OTHER_VALUES = [None, True, False, 0, 1, -1, 1.0, "", "0", b"", [], [0], {}, {0: 0}, set(), frozenset(), object()]


# Values that are no joining of the dyes 0, 1, 2 with the part (0,), and so no cut of three numbers.
NO_CUTS = OTHER_VALUES + [
    (), ((),), ((), (0,), (1,), (2,)), ((0,), (1,), (2,), ()), ((0,), (), (1, 2)), "012", ((0,), (1, 2), None),
    [(0,), (1,), (2,)], ([0], [1], [2]), ((0,), (1,), [2]), ([0], (1, 2)), ((0,), [1, 2]), ((0,), (1,), 2), (0, 1, 2),
    ((0,), (0,), (1,), (2,)), ((0, 0), (1,), (2,)), ((0,), (1, 2), (2,)), ((0,), (1, 1), (2,)), ((0,), (1, 2), (1, 2)),
    ((0,),), ((0,), (1,)), ((0,), (2,)), ((1,), (2,)), ((1, 2),), ((0,), (1,), (2,), (3,)), ((0,), (1, 2, 3)),
    ((-1,), (0,), (1,), (2,)), ((0,), (-1, 1, 2)), ((0,), (1,), (3,)), ((0,), (1,), (2, 10 ** 30)),
    ((False,), (1,), (2,)), ((False,), (1, 2)), ((0,), (True,), (2,)), ((0,), (True, 2)), ((0.0,), (1,), (2,)),
    ((0,), (1.0, 2)), ((0,), (None,), (2,)), ((0,), ("1",), (2,)), ((0,), ((1,),), (2,)), ((0,), ([],), (2,)),
    ((1,), (0,), (2,)), ((0,), (2,), (1,)), ((0,), (2, 1)), ((1, 2), (0,)), (((0,), (1,), (2,)),), ((0,), {1, 2}),
    # These are joinings, but without the part (0,).
    ((0, 1), (2,)), ((0, 2), (1,)), ((0, 1, 2),),
]


def random_dyeing(seed, n, dyes):
    """A dyeing of n places with at most so many dyes; the same one for each seed."""
    source = random.Random(seed)
    return plain_dyed([[source.randrange(dyes) for _ in range(n)] for _ in range(n)])


def random_listing(seed, n):
    """A listing of n numbers; the same one for each seed."""
    listing = list(range(n))
    random.Random(seed).shuffle(listing)
    return tuple(listing)


def some_dyeings(most=6):
    """Dyeings of 0 to `most` places of several sorts."""
    found = []
    for n in range(most + 1):
        found += [even_dyeing(n), single_dyeing(n), full_dyeing(n), ring_dyeing(n), way_dyeing(n)]
        found += [random_dyeing(100 * n + dyes, n, dyes) for dyes in (2, 3, 5)]
    return found


def all_dyeings(n):
    """All dyeings of n places, n up to 3."""
    rows = [()]
    for _ in range(n * n):
        rows = [row + (dye,) for row in rows for dye in range(max(row, default=-1) + 2)]
    return [tuple(row[n * x:n * x + n] for x in range(n)) for row in rows]


def pairs(dyeing):
    """All pairs of places of a dyeing, ascending."""
    return [(x, y) for x in range(len(dyeing)) for y in range(len(dyeing))]


def plain_dye_count(dyeing):
    """The number of dyes by collecting them."""
    return len({dye for row in dyeing for dye in row})


def between_count(dyeing, i, j, x, y):
    """The number of places z with (x, z) of the dye i and (z, y) of the dye j."""
    return sum(1 for z in range(len(dyeing)) if dyeing[x][z] == i and dyeing[z][y] == j)


def plain_closed_breach(dyeing):
    """`closed_breach` condition by condition, dye by dye."""
    r = plain_dye_count(dyeing)
    of = [[(x, y) for x, y in pairs(dyeing) if dyeing[x][y] == dye] for dye in range(r)]
    for dye in range(r):
        if len({x == y for x, y in of[dye]}) > 1:
            return ("middle", dye)
    for dye in range(r):
        if len({dyeing[y][x] for x, y in of[dye]}) > 1:
            return ("turned", dye)
    for i in range(r):
        for j in range(r):
            for k in range(r):
                if len({between_count(dyeing, i, j, x, y) for x, y in of[k]}) > 1:
                    return ("count", i, j, k)
    return None


def plain_within(one, other):
    """Whether one dyeing is within another one, by looking at all two pairs."""
    return all(
        other[x][y] == other[u][v]
        for x, y in pairs(one) for u, v in pairs(one)
        if one[x][y] == one[u][v]
    )
