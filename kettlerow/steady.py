"""Steady states: the amounts that one round leaves as they are."""

from kettlerow.errors import NoSteady
from kettlerow.fracs import NOUGHT, ONE, difference, is_lesser, product, quotient, sum_of, sum_of_all
from kettlerow.rounds import are_amounts, gap_between, walked_once

MOST_ROUNDS = 40


def steady_state(kinds):
    """The amounts that one round leaves as they are; NoSteady of the kinds that lose nothing, if there are any."""
    lossless = _places_without_loss(kinds)
    if lossless:
        raise NoSteady(tuple(lossless))
    rows = [_row_of(kinds, place) for place in range(len(kinds))]
    for place in range(len(kinds)):
        rows[place] = _freed_of_itself(rows[place], place)
        rows = [row if at == place else _put_into(row, place, rows[place]) for at, row in enumerate(rows)]
    return [row[-1] for row in rows]


def shows_steady(kinds, thing):
    """Whether a thing is amounts that one round leaves as they are."""
    return are_amounts(kinds, thing) and walked_once(kinds, thing) == thing


def rounds_till(kinds, amounts, most):
    """The least rounds behind which the gap to the steady state is at most so much; None where that's too many."""
    steady = steady_state(kinds)
    later = amounts
    for rounds in range(MOST_ROUNDS + 1):
        if not is_lesser(most, gap_between(later, steady)):
            return rounds
        later = walked_once(kinds, later)
    return None


def _places_without_loss(kinds):
    """The rising places of all kinds of which nothing is ever lost."""
    places = [place for place, (_, drip, _) in enumerate(kinds) if drip == ONE]
    while True:
        left = [place for place in places if _goes_in_all(kinds[place], places) == ONE]
        if left == places:
            return places
        places = left


def _goes_in_all(kind, places):
    """What of a kind's drips comes to the kinds at these places in all."""
    return sum_of_all([kind[2][place] for place in places])


def _row_of(kinds, place):
    """The parts that a kind has of what each kind has, and its fresh sugar behind them."""
    parts = [product(drip, goes[place]) for _, drip, goes in kinds]
    return parts + [(kinds[place][0], 1)]


def _freed_of_itself(row, place):
    """A kind's row without a part of itself, which tells the same."""
    # Each kind loses something in the end, so none ever has all of itself again.
    lost = difference(ONE, row[place])
    freed = [quotient(part, lost) for part in row]
    freed[place] = NOUGHT
    return freed


def _put_into(row, place, freed):
    """A row with what the freed row of the kind at that place tells put in for that kind."""
    many = row[place]
    put = [sum_of(part, product(many, more)) for part, more in zip(row, freed)]
    put[place] = NOUGHT
    return put
