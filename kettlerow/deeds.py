"""Deeds: what can be told to be done with works."""

from kettlerow.fracs import is_frac
from kettlerow.names import is_name
from kettlerow.wholes import is_number_within

MOST_JUICE = 10 ** 6
MOST_POURS = 12
MOST_OF_FORTY_FIGURES = 10 ** 40 - 1


def is_deed(thing):
    """Whether a thing is a deed."""
    if not isinstance(thing, tuple):
        return False
    match thing:
        case ("juice", kettle, sugar, water):
            return is_name(kettle) and _are_sugar_and_water(sugar, water)
        case ("ladle", one, other, share):
            return is_name(one) and is_name(other) and _is_told_frac(share)
        case ("skim", kettle, share, given, other):
            return is_name(kettle) and _is_told_frac(share) and _is_told_frac(given) and is_name(other)
        case ("stop" | "start" | "drain" | "knock", name):
            return is_name(name)
        case ("strike", kettle, pours):
            return is_name(kettle) and _are_pours(pours)
        case ("drips", kettle, share):
            return is_name(kettle) and _is_told_frac(share)
    return False


def in_tuples(deed):
    """A deed as tuples all through."""
    if deed[0] != "strike":
        return deed
    return ("strike", deed[1], tuple(deed[2]))


def _are_sugar_and_water(sugar, water):
    """Whether these can be the sugar and the water of juice that comes."""
    if not is_number_within(sugar, 0, MOST_JUICE) or not is_number_within(water, 0, MOST_JUICE):
        return False
    return sugar + water > 0


def _are_pours(thing):
    """Whether a thing is the pours of a strike."""
    if not isinstance(thing, (list, tuple)) or not 1 <= len(thing) <= MOST_POURS:
        return False
    return all(_is_pour(pour) for pour in thing)


def _is_pour(thing):
    """Whether a thing is a pair (mould, share)."""
    return isinstance(thing, tuple) and len(thing) == 2 and is_name(thing[0]) and _is_told_frac(thing[1])


def _is_told_frac(thing):
    """Whether a thing is a fraction that a deed can have, which needn't be a share."""
    return is_frac(thing) and abs(thing[0]) <= MOST_OF_FORTY_FIGURES and thing[1] <= MOST_OF_FORTY_FIGURES
