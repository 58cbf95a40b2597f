"""Sums of characters, told as remainders of polynomials, and the cuts that they give."""

from math import gcd

from pairdyes.orders import parts_by
from pairdyes.ratios import common_multiple
from pairdyes.sums import added, check_cut, number_count, row_of


def wheel(d):
    """Returns the coefficients of the polynomial F(d), from that of t^0 on."""
    wheels = {}
    for c in range(1, d + 1):
        if d % c == 0:
            made = [-1] + [0] * (c - 1) + [1]
            for divisor in wheels:
                if c % divisor == 0:
                    made = quotient(made, wheels[divisor])
            wheels[c] = made
    return tuple(wheels[d])


def divided(polynomial, divisor):
    """Returns the coefficients of the quotient and of the remainder by a polynomial that ends in 1."""
    rest = list(polynomial)
    degree = len(divisor) - 1
    found = []
    for at in reversed(range(degree, len(polynomial))):
        factor = rest[at]
        found.append(factor)
        for back, coefficient in enumerate(divisor):
            rest[at - degree + back] -= factor * coefficient
    return found[::-1], rest[:degree]


def quotient(polynomial, divisor):
    """Returns the coefficients of the quotient by a polynomial that ends in 1."""
    return divided(polynomial, divisor)[0]


def turning(sizes, a, b):
    """Returns the number a.b that tells how far two numbers turn each other."""
    e = common_multiple(sizes)
    rows = list(zip(sizes, row_of(sizes, a), row_of(sizes, b)))
    return sum([one * other * (e // size) for size, one, other in rows]) % e


def character_sum(sizes, numbers, a):
    """Returns the coefficients of the remainder by F(e) of the sum of t^(a.b) over all numbers b."""
    e = common_multiple(sizes)
    polynomial = [0] * e
    for b in numbers:
        polynomial[turning(sizes, a, b)] += 1
    return tuple(divided(polynomial, wheel(e))[1])


def dual_cut(sizes, cut):
    """Returns the cut in which two numbers are in one part if their character sums are equal for each part."""
    check_cut(sizes, cut)
    return parts_by([
        tuple([character_sum(sizes, part, a) for part in cut]) for a in range(number_count(sizes))
    ])


def rational_cut(sizes):
    """Returns the cut in which two numbers are in one part if each is a multiple of the other by a unit of e."""
    e = common_multiple(sizes)
    units = [t for t in range(1, e + 1) if gcd(t, e) == 1]
    return parts_by([min([multiple(sizes, t, a) for t in units]) for a in range(number_count(sizes))])


def multiple(sizes, t, a):
    """Returns the sum of t numbers a."""
    total = 0
    for _ in range(t):
        total = added(sizes, total, a)
    return total
