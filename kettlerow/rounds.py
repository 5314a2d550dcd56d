"""Rounds: of each kind some drips, which goes to the kinds of the next round or is sold; the rest is loaves."""

from kettlerow.fracs import ONE, difference, is_frac, is_lesser, product, sum_of, sum_of_all
from kettlerow.wholes import is_number_within

MOST_KINDS = 6
MOST_FRESH = 10 ** 6
MOST_BOTTOM = 12


def are_kinds(thing):
    """Whether a thing is kinds."""
    if not isinstance(thing, list) or not 1 <= len(thing) <= MOST_KINDS:
        return False
    return all(_is_kind(kind, len(thing)) for kind in thing)


def are_amounts(kinds, thing):
    """Whether a thing is amounts of these kinds."""
    if not isinstance(thing, list) or len(thing) != len(kinds):
        return False
    return all(is_frac(amount) and amount[0] >= 0 for amount in thing)


def walked_once(kinds, amounts):
    """The amounts one round later."""
    dripped = _dripped_of(kinds, amounts)
    later = []
    for place, (fresh, _, _) in enumerate(kinds):
        come = [product(drips, goes[place]) for drips, (_, _, goes) in zip(dripped, kinds)]
        later.append(sum_of((fresh, 1), sum_of_all(come)))
    return later


def walked_on(kinds, amounts, many):
    """The amounts so many rounds later."""
    later = list(amounts)
    for _ in range(many):
        later = walked_once(kinds, later)
    return later


def loaves_of(kinds, amounts):
    """What doesn't drip of each kind."""
    dripped = _dripped_of(kinds, amounts)
    return [difference(amount, drips) for amount, drips in zip(amounts, dripped)]


def sold_of(kinds, amounts):
    """What is sold in all: what drips and comes to no kind."""
    sold = []
    for drips, (_, _, goes) in zip(_dripped_of(kinds, amounts), kinds):
        sold.append(product(drips, difference(ONE, sum_of_all(goes))))
    return sum_of_all(sold)


def gap_between(one, other):
    """The sum of the differences of two amounts, each without its sign."""
    gaps = []
    for mine, yours in zip(one, other):
        top, bottom = difference(mine, yours)
        gaps.append((abs(top), bottom))
    return sum_of_all(gaps)


def _dripped_of(kinds, amounts):
    """What drips of each kind."""
    return [product(amount, drip) for amount, (_, drip, _) in zip(amounts, kinds)]


def _is_kind(thing, many):
    """Whether a thing is one of so many kinds."""
    if not isinstance(thing, tuple) or len(thing) != 3:
        return False
    fresh, drip, goes = thing
    return is_number_within(fresh, 0, MOST_FRESH) and _is_part(drip) and _are_goes(goes, many)


def _are_goes(thing, many):
    """Whether a thing tells what of a kind's drips comes to each of so many kinds."""
    if not isinstance(thing, tuple) or len(thing) != many or not all(_is_part(part) for part in thing):
        return False
    return not is_lesser(ONE, sum_of_all(thing))


def _is_part(thing):
    """Whether a thing is a fraction from 0 to 1 that kinds can have."""
    return is_frac(thing) and 0 <= thing[0] <= thing[1] <= MOST_BOTTOM
