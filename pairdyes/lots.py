"""Lots of places: how often they have each dye, what the second table tells of them, and the greatest ones."""

from pairdyes.dyeings import dye_count
from pairdyes.errors import NotPlain
from pairdyes.ratios import ZERO, ratio, ratio_sum_of_products
from pairdyes.rooms import check_even
from pairdyes.shades import has_own_turned, second_table


def inner_row(dyeing, lot):
    """Returns, dye by dye, the ratio of the pairs within a lot to its places."""
    dyes = [dyeing[x][y] for x in lot for y in lot]
    return tuple([ratio(dyes.count(dye), len(lot)) for dye in range(dye_count(dyeing))])


def outer_row(dyeing, lot):
    """Returns, shade by shade, the sum over all dyes I of entry I of the inner row times q(I, j)."""
    table = second_table(dyeing)
    inner = inner_row(dyeing, lot)
    return tuple([ratio_sum_of_products(inner, column) for column in zip(*table)])


def is_level(dyeing, lot, numbers):
    """Tells whether some entries of the outer row are 0."""
    outer = outer_row(dyeing, lot)
    return all([outer[j] == ZERO for j in numbers])


def greatest_lot(dyeing, dyes):
    """Returns the first one of the lots with the most places that are kept to the dyes."""
    check_even(dyeing)
    if not has_own_turned(dyeing):
        raise NotPlain("some dye is not its own turned one")
    return longest_lot(dyeing, dyes, (), tuple(range(len(dyeing))), ())


def longest_lot(dyeing, dyes, begun, left, best):
    """Returns the first longest one of the best lot so far and those that go on from a lot by the places left."""
    if len(begun) > len(best):
        best = begun
    for at, x in enumerate(left):
        # Without this most lots would be found again and again in parts; the best one stays if none is longer.
        if len(begun) + len(left) - at <= len(best):
            return best
        further = tuple([y for y in left[at + 1:] if dyeing[x][y] in dyes])
        best = longest_lot(dyeing, dyes, begun + (x,), further, best)
    return best
