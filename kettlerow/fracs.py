"""Fractions: tuples (top, bottom) in lowest terms, the bottom above 0."""

from math import gcd

from kettlerow.wholes import is_number

NOUGHT = (0, 1)
ONE = (1, 1)


def is_frac(thing):
    """Whether a thing is a fraction."""
    if not isinstance(thing, tuple) or len(thing) != 2:
        return False
    top, bottom = thing
    if not is_number(top) or not is_number(bottom):
        return False
    return bottom > 0 and gcd(top, bottom) == 1


def frac_of(top, bottom):
    """The fraction that is top by bottom; the bottom is not 0."""
    common = gcd(top, bottom)
    if bottom < 0:
        common = -common
    return (top // common, bottom // common)


def sum_of(one, other):
    """The one and the other together."""
    return frac_of(one[0] * other[1] + other[0] * one[1], one[1] * other[1])


def sum_of_all(ones):
    """All fractions of a list together."""
    whole = NOUGHT
    for one in ones:
        whole = sum_of(whole, one)
    return whole


def difference(one, other):
    """The one less the other."""
    return frac_of(one[0] * other[1] - other[0] * one[1], one[1] * other[1])


def product(one, other):
    """The one times the other."""
    return frac_of(one[0] * other[0], one[1] * other[1])


def quotient(one, other):
    """The one by the other, which is not 0."""
    return frac_of(one[0] * other[1], one[1] * other[0])


def is_lesser(one, other):
    """Whether the one is less than the other, which may be anything: none is less than what is no fraction."""
    return is_frac(other) and one[0] * other[1] < other[0] * one[1]
