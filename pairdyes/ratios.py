"""Ratios: pairs of integers without a common divisor, the second one at least 1; and common multiples."""

from math import gcd, lcm

from pairdyes.dyeings import is_number

ZERO = (0, 1)
ONE = (1, 1)


def ratio(a, b):
    """Returns the ratio of an integer to an integer of at least 1."""
    divisor = gcd(a, b)
    return (a // divisor, b // divisor)


def is_ratio(value):
    """Tells whether any value is a ratio."""
    if not isinstance(value, tuple) or len(value) != 2 or not all([is_number(entry) for entry in value]):
        return False
    a, b = value
    return b >= 1 and gcd(a, b) == 1


def ratio_sum(ratios):
    """Returns the sum of a list of ratios."""
    above = 0
    below = 1
    for a, b in ratios:
        above, below = ratio(above * b + a * below, below * b)
    return (above, below)


def ratio_sum_of_products(ones, others):
    """Returns the sum of the products of the ratios with equal indices in two lists."""
    return ratio_sum([(a * c, b * d) for (a, b), (c, d) in zip(ones, others)])


def common_multiple(numbers):
    """Returns the least common multiple of some integers of at least 1, and 1 for none."""
    common = 1
    for number in numbers:
        common = lcm(common, number)
    return common
