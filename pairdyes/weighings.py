"""Weighings: rows of ratios that bound the number of places of the lots that are kept to some dyes."""

from pairdyes.errors import NotWeighing
from pairdyes.ratios import ONE, ZERO, is_ratio, ratio, ratio_sum, ratio_sum_of_products
from pairdyes.shades import rank_row, second_table, shades
from pairdyes.simplex import Board


def weighing_breach(dyeing, dyes, value):
    """Returns None for a weighing, and otherwise where any value fails first: at an entry, or r plus a dye."""
    table = second_table(dyeing)
    if not isinstance(value, tuple) or len(value) != len(table) or not all([is_ratio(own) for own in value]):
        return -1
    for at, entry in enumerate(value):
        if entry[0] < 0 or (at == 0 and entry != ONE):
            return at
    for dye in dyes:
        above, _ = ratio_sum_of_products(value, table[dye])
        if above > 0:
            return len(table) + dye
    return None


def bound_of(dyeing, dyes, weighing):
    """Returns the ratio above which no lot kept to the dyes has places, by a weighing."""
    place = weighing_breach(dyeing, dyes, weighing)
    if place is not None:
        raise NotWeighing(place)
    # The entries of the dye 0 in the second table are the ranks.
    return ratio_sum_of_products(weighing, second_table(dyeing)[0])


def best_board(told, dyes):
    """Returns the board whose corner tells a best inner try and whose prices tell a best weighing.

    With y = a[I] / k(I) as the values, an inner try of the sum 1 + s is one for which the sum of -p(j, I) y is at
    most 1 for each shade j but the first one, and s is the sum of k(I) y. All numbers of the board are integers.
    """
    board = Board([[-shade[dye] for dye in dyes] for shade in told[1:]], [told[0][dye] for dye in dyes])
    board.walk()
    return board


def least_bound(dyeing, dyes):
    """Returns the least ratio that is the bound of a weighing for the dyes."""
    return ratio_sum(best_inner(dyeing, dyes))


def best_weighing(dyeing, dyes):
    """Returns a weighing for the dyes with the least bound."""
    told = shades(dyeing)
    prices = best_board(told, dyes).prices()
    return (ONE,) + tuple([ratio(a, b * rank) for (a, b), rank in zip(prices, rank_row(told)[1:])])


def best_inner(dyeing, dyes):
    """Returns an inner try for the dyes whose sum is the least bound."""
    told = shades(dyeing)
    entries = [ONE] + [ZERO] * (len(told) - 1)
    for dye, (a, b) in zip(dyes, best_board(told, dyes).corner()):
        entries[dye] = ratio(a * told[0][dye], b)
    return tuple(entries)
