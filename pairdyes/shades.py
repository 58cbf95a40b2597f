"""Shades of plain dyeings, their ranks, and the second table and second counts that come of them."""

from math import gcd

from pairdyes.errors import NotJoining, NotPlain
from pairdyes.joinings import is_joining_with_zero
from pairdyes.orders import parts_by
from pairdyes.ratios import common_multiple, ratio
from pairdyes.rooms import check_even, is_even
from pairdyes.sheets import sheet_of


def is_plain(dyeing):
    """Tells whether a dyeing is even, each dye is its own turned one, and it has as many shades as dyes."""
    return is_even(dyeing) and plain_shades(dyeing) is not None


def shades(dyeing):
    """Returns all shades of a plain dyeing, descending; the first one has the degrees of the dyes."""
    check_even(dyeing)
    told = plain_shades(dyeing)
    if told is None:
        raise NotPlain("the dyeing is not plain")
    return told


def has_own_turned(dyeing):
    """Tells whether each dye of a closed dyeing is its own turned one."""
    return tuple(zip(*dyeing)) == dyeing


def plain_shades(dyeing):
    """Returns all shades of an even dyeing, descending, or None if it is not plain."""
    if not has_own_turned(dyeing):
        return None
    counts = sheet_of(dyeing)[2]
    r = len(counts)
    # A shade is a row that counting through with each dye multiplies by its own entry at the dye. All dyes being
    # their own turned ones, the rows that one dye multiplies by one number are taken to each other by all dyes.
    spaces = [[[int(at == own) for own in range(r)] for at in range(r)]]
    for dye in range(1, r):
        spaces = [part for space in spaces for part in space_parts(space, counts, dye)]
    # Behind all dyes each space has one row alone and its multiples; there are fewer if numbers were no integers.
    if len(spaces) < r:
        return None
    return tuple(sorted([tuple([entry // space[0][0] for entry in space[0]]) for space in spaces], reverse=True))


def space_parts(space, counts, dye):
    """Returns the parts of a space: for each integer the rows that a dye multiplies by it, if there are any.

    A space is a list of rows of which all its rows can be put together in just one way.
    """
    if len(space) == 1:
        return [space]
    images = [image_of(row, counts, dye) for row in space]
    # No entry of a shade is farther from 0 than the degree of the dye.
    degree = counts[0][dye][dye]
    parts = [
        combined([less(image, factor, row) + row for image, row in zip(images, space)], len(counts))
        for factor in range(-degree, degree + 1)
    ]
    return [part for part in parts if part]


def image_of(row, counts, dye):
    """Returns the row with, for each dye J, the sum over all K of c(K; I, J) times entry K, I being the dye."""
    return [sum([entry * table[dye][j] for entry, table in zip(row, counts)]) for j in range(len(row))]


def less(image, factor, row):
    """Returns the image of a row less so many times the row."""
    return [entry - factor * own for entry, own in zip(image, row)]


def combined(rows, width):
    """Returns rows of which all sums of multiples of the rows with 0 at the first indices are put together.

    The rows that are passed have so many entries ahead; they are left out in what is returned.
    """
    for at in range(width):
        leads = [row for row in rows if row[at] != 0]
        rows = [row for row in rows if row[at] == 0] + [cleared(row, leads[0], at) for row in leads[1:]]
    return [row[width:] for row in rows]


def cleared(row, lead, at):
    """Returns a multiple of a row less one of the lead, with 0 at an index and without a common divisor."""
    made = [lead[at] * own - row[at] * other for own, other in zip(row, lead)]
    divisor = 0
    for entry in made:
        divisor = gcd(divisor, entry)
    return [own // divisor for own in made]


def rank_row(told):
    """Returns the ranks of the shades of a plain dyeing."""
    degrees = told[0]
    n = sum(degrees)
    common = common_multiple(degrees)
    # Multiplied by the common multiple all parts of the sum are integers.
    return tuple([
        n * common // sum([entry * entry * common // degree for entry, degree in zip(shade, degrees)])
        for shade in told
    ])


def ranks(dyeing):
    """Returns the ranks of the shades."""
    return rank_row(shades(dyeing))


def second_table(dyeing):
    """Returns the table of the ratios q(I, j)."""
    told = shades(dyeing)
    rank_numbers = rank_row(told)
    return tuple([
        tuple([ratio(rank * shade[dye], degree) for rank, shade in zip(rank_numbers, told)])
        for dye, degree in enumerate(told[0])
    ])


def idle_table(dyeing, j):
    """Returns the table with, at each pair, the ratio q(I, j) / n, I being the dye of the pair."""
    entries = [ratio(a, b * len(dyeing)) for a, b in [row[j] for row in second_table(dyeing)]]
    return tuple([tuple([entries[dye] for dye in row]) for row in dyeing])


def second_counts(dyeing):
    """Returns, for each shade k, the table of the ratios d(k; i, j)."""
    told = shades(dyeing)
    return tuple([second_count_table(told, third) for third in told])


def second_count_table(told, third):
    """Returns the table of the ratios d(k; i, j) for one shade k, told by its entries."""
    degrees = told[0]
    common = common_multiple(degrees)
    # Multiplied by the common multiple twice all parts of the sums are integers.
    worths = [entry * (common // degree) * (common // degree) for entry, degree in zip(third, degrees)]
    below = sum(degrees) * common * common
    ranked = list(zip(rank_row(told), told))
    return tuple([
        tuple([ratio(rank * other_rank * triple_sum(worths, shade, other), below) for other_rank, other in ranked])
        for rank, shade in ranked
    ])


def triple_sum(one, other, third):
    """Returns the sum of the products of the entries with equal indices in three rows."""
    return sum([a * b * c for a, b, c in zip(one, other, third)])


def shade_kinds(dyeing, joining):
    """Returns the indices of the shades, parted by their sums over the parts of a joining."""
    told = shades(dyeing)
    if not is_joining_with_zero(joining, len(told)):
        raise NotJoining("the value is no joining of the dyeing with the part (0,)")
    return parts_by([tuple([sum([shade[dye] for dye in part]) for part in joining]) for shade in told])
