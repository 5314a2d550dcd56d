"""Juices: tuples (sugar, water) of fractions, none below 0."""

from kettlerow.fracs import NOUGHT, ONE, difference, is_frac, product, quotient, sum_of

NOTHING = ((0, 1), (0, 1))


def is_juice(thing):
    """Whether a thing is a juice."""
    if not isinstance(thing, tuple) or len(thing) != 2:
        return False
    return all(is_frac(part) and part[0] >= 0 for part in thing)


def mixed(one, other):
    """The one and the other juice together."""
    return (sum_of(one[0], other[0]), sum_of(one[1], other[1]))


def all_mixed(juices):
    """All juices of a list together."""
    whole = NOTHING
    for juice in juices:
        whole = mixed(whole, juice)
    return whole


def share_of(juice, share):
    """So much of a juice's sugar and of its water; the share is from 0 to 1."""
    return (product(juice[0], share), product(juice[1], share))


def rest_of(juice, share):
    """What is left of a juice when that share of it is out."""
    return share_of(juice, difference(ONE, share))


def volume_of(juice):
    """Sugar and water together."""
    return sum_of(juice[0], juice[1])


def strength_of(juice):
    """The sugar of a juice by its volume; None of nothing."""
    volume = volume_of(juice)
    if volume == NOUGHT:
        return None
    return quotient(juice[0], volume)
