"""Exact fractions: pairs of a top and a bottom in lowest terms, the bottom greater than 0."""
from math import gcd

ZERO = (0, 1)
ONE = (1, 1)


def fraction(top, bottom):
    """The pair in lowest terms; the bottom is not 0."""
    common = gcd(top, bottom)
    if bottom < 0:
        common = -common
    return (top // common, bottom // common)


def plus(one, two):
    return fraction(one[0] * two[1] + two[0] * one[1], one[1] * two[1])


def minus(one, two):
    return fraction(one[0] * two[1] - two[0] * one[1], one[1] * two[1])


def times(one, two):
    return fraction(one[0] * two[0], one[1] * two[1])


def over(one, two):
    """The quotient; the second one is not 0."""
    return fraction(one[0] * two[1], one[1] * two[0])


def power(one, exponent):
    """The power with a whole exponent; the fraction is not 0 if the exponent is less than 0."""
    if exponent < 0:
        top, bottom = fraction(one[1], one[0])
    else:
        top, bottom = fraction(one[0], one[1])
    # Powers of numbers without a common divisor have none either.
    return (raised(top, abs(exponent)), raised(bottom, abs(exponent)))


def raised(number, exponent):
    """The power of an integer; the exponent is not less than 0."""
    if exponent == 0:
        return 1
    half = raised(number, exponent // 2)
    return half * half * number if exponent % 2 == 1 else half * half


def is_less(one, two):
    return one[0] * two[1] < two[0] * one[1]


def is_pair(value):
    """Whether a value of any kind is a tuple of two integers."""
    return type(value) == tuple and len(value) == 2 and all([type(part) == int for part in value])
