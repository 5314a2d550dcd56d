"""Days: the ladles that come, what each place takes in each hour, and the plans that can be done."""

from kettlerow.bounds import AHEAD_OF_ALL, bounds_at, hours_in, places_in, reached
from kettlerow.wholes import is_number, is_number_within

MOST_HOURS = 48
MOST_KETTLES = 8
MOST_LADLES = 10 ** 6


def is_day(thing):
    """Whether a thing is a day."""
    if not isinstance(thing, tuple) or len(thing) != 3:
        return False
    comes, kettles, strikes = thing
    if not isinstance(comes, list) or not 1 <= len(comes) <= MOST_HOURS:
        return False
    if not isinstance(kettles, list) or not 1 <= len(kettles) <= MOST_KETTLES:
        return False
    hours = len(comes)
    if not _are_ladles(comes, hours) or not _are_ladles(strikes, hours):
        return False
    return all(_is_kettle(kettle, hours) for kettle in kettles)


def shows_plan(day, thing):
    """Whether a thing is a plan of a day that can be done."""
    if not isinstance(thing, list) or len(thing) != places_in(day):
        return False
    if not all(_is_place_of_plan(numbers, hours_in(day)) for numbers in thing):
        return False
    taken = _taken_by(thing)
    for place, hour in taken:
        for bound in bounds_at(day, place, hour).values():
            if taken[place, hour] > reached(taken, bound):
                return False
    return True


def _taken_by(plan):
    """What each place of a plan has taken by the end of each hour, and ahead of all."""
    taken = {}
    for place, numbers in enumerate(plan):
        taken[place, AHEAD_OF_ALL] = 0
        for hour, number in enumerate(numbers):
            taken[place, hour] = taken[place, hour - 1] + number
    return taken


def _is_kettle(thing, hours):
    """Whether a thing is a kettle of a day of so many hours."""
    if not isinstance(thing, tuple) or len(thing) != 2:
        return False
    room, takes = thing
    return is_number_within(room, 1, MOST_LADLES) and _are_ladles(takes, hours)


def _are_ladles(thing, hours):
    """Whether a thing is a list of the ladles of each hour of a day."""
    if not isinstance(thing, list) or len(thing) != hours:
        return False
    return all(is_number_within(number, 0, MOST_LADLES) for number in thing)


def _is_place_of_plan(thing, hours):
    """Whether a thing is a list of a number from 0 for each hour."""
    if not isinstance(thing, list) or len(thing) != hours:
        return False
    return all(is_number(number) and number >= 0 for number in thing)
