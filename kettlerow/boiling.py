"""Boiling: what a fire leaves of a juice, never stronger than its mark by the fire."""

from kettlerow.fracs import NOUGHT, difference, frac_of, is_lesser, product


def water_at(sugar, mark):
    """The water with which so much sugar has the strength mark."""
    return frac_of(sugar[0] * (mark[1] - mark[0]), sugar[1] * mark[0])


def boiled_down(juice, fire, mark, hours):
    """The juice behind so many hours over a fire; it is boiled to the mark and no further."""
    sugar, water = juice
    least = water_at(sugar, mark)
    if not is_lesser(least, water):
        return juice
    left = difference(water, product((fire, 1), hours))
    if is_lesser(left, least):
        left = least
    return (sugar, left)


def ready_in(juice, fire, mark):
    """The least hours from 0 behind which a juice has its mark or more; None where it never has."""
    sugar, water = juice
    if sugar == NOUGHT:
        return None
    least = water_at(sugar, mark)
    if not is_lesser(least, water):
        return NOUGHT
    if fire == 0:
        return None
    above = difference(water, least)
    return frac_of(above[0], above[1] * fire)
