"""Papers that show how many are struck in a day at most."""

from kettlerow.bounds import bounds_at, end_of
from kettlerow.wholes import is_number


def shows_most(day, many, thing):
    """Whether a thing is a list of bounds, each of what the one ahead of it leads to, that come to so many."""
    if not isinstance(thing, list):
        return False
    lead = end_of(day)
    told = 0
    for bound in thing:
        if lead is None or not _is_bound_of(bound, lead):
            return False
        bounds = bounds_at(day, lead[0], lead[1])
        if bound[0] not in bounds:
            return False
        lead, more = bounds[bound[0]]
        told += more
    return lead is None and told == many


def _is_bound_of(thing, lead):
    """Whether a thing is a tuple (word, place, hour) of that place and hour, whatever its word."""
    if not isinstance(thing, tuple) or len(thing) != 3:
        return False
    word, place, hour = thing
    return isinstance(word, str) and is_number(place) and is_number(hour) and (place, hour) == lead
