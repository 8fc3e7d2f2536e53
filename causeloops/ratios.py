"""Fractions: pairs of an integer and an integer from 1 on, without a common divisor."""

from math import gcd

from causeloops.kinds import is_integer, is_tuple_of

NOTHING = (0, 1)
UNIT = (1, 1)


def is_fraction(thing):
    """Whether any value is a fraction."""
    if not is_tuple_of(thing, 2):
        return False
    top, bottom = thing
    return is_integer(top) and is_integer(bottom) and bottom >= 1 and gcd(top, bottom) == 1


def ratio(top, bottom):
    """The fraction of two integers, the lower one of which is not 0."""
    divisor = gcd(top, bottom) if bottom > 0 else -gcd(top, bottom)
    return top // divisor, bottom // divisor


def product_of(one, other):
    """The product of two fractions."""
    return ratio(one[0] * other[0], one[1] * other[1])


def inverse_of(one):
    """What times a fraction that is not 0 makes 1."""
    return ratio(one[1], one[0])


def add_times(line, factor, other):
    """The row of fractions that is a row and a factor times another one."""
    return [sum_of(one, product_of(factor, two)) for one, two in zip(line, other)]


def sum_of(one, other):
    """The sum of two fractions."""
    return ratio(one[0] * other[1] + other[0] * one[1], one[1] * other[1])


def total_of(weights, counts):
    """The sum of fractions times integers."""
    total = NOTHING
    for weight, count in zip(weights, counts):
        total = sum_of(total, product_of(weight, (count, 1)))
    return total
