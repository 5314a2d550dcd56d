"""Rounds and steady states reckoned with Python's own fractions, and kinds that look like chance."""

from fractions import Fraction
from math import gcd

from helpers import pair
from spoilt import is_plain


def fracs(amounts):
    return [Fraction(*amount) for amount in amounts]


def pairs(numbers):
    return [pair(number) for number in numbers]


def model_walked(kinds, amounts):
    """One round with fractions of Python's: what every kind sends, one after another."""
    later = [Fraction(fresh) for fresh, _, _ in kinds]
    for (_, drip, goes), amount in zip(kinds, amounts):
        for place, part in enumerate(goes):
            later[place] += amount * Fraction(*drip) * Fraction(*part)
    return later


def model_lossless(kinds):
    """The most places together of which nothing is lost, found among all sets of places."""
    best = []
    for chosen in range(1, 2 ** len(kinds)):
        places = [place for place in range(len(kinds)) if chosen >> place & 1]
        kept = [kinds[place][1] == (1, 1) and sum(Fraction(*kinds[place][2][to]) for to in places) == 1 for place in places]
        if all(kept) and len(places) > len(best):
            best = places
    return tuple(best)


def model_steady(kinds):
    """The one steady state by Cramer's rule."""
    many = len(kinds)
    matrix = [
        [Fraction(place == other) - Fraction(*kinds[other][1]) * Fraction(*kinds[other][2][place]) for other in range(many)]
        for place in range(many)
    ]
    fresh = [Fraction(kind[0]) for kind in kinds]
    whole = determinant(matrix)
    return [determinant([row[:at] + [last] + row[at + 1:] for row, last in zip(matrix, fresh)]) / whole for at in range(many)]


def determinant(matrix):
    if not matrix:
        return Fraction(1)
    return sum(
        ((-1) ** at * part * determinant([row[:at] + row[at + 1:] for row in matrix[1:]]) for at, part in enumerate(matrix[0]) if part),
        Fraction(0))


def is_model_frac(thing, most=None):
    if type(thing) is not tuple or len(thing) != 2 or not all(is_plain(part) for part in thing):
        return False
    top, bottom = thing
    return bottom > 0 and top >= 0 and gcd(top, bottom) == 1 and (most is None or (top <= bottom <= most))


def are_model_kinds(thing):
    """Whether a thing is kinds, told without the program."""
    if type(thing) is not list or len(thing) not in range(1, 7):
        return False
    for kind in thing:
        if type(kind) is not tuple or len(kind) != 3 or not is_plain(kind[0]) or kind[0] not in range(10 ** 6 + 1):
            return False
        if not is_model_frac(kind[1], 12) or type(kind[2]) is not tuple or len(kind[2]) != len(thing):
            return False
        if not all(is_model_frac(part, 12) for part in kind[2]) or sum(Fraction(*part) for part in kind[2]) > 1:
            return False
    return True


def are_model_amounts(kinds, thing):
    return type(thing) is list and len(thing) == len(kinds) and all(is_model_frac(amount) for amount in thing)


def part_by(turns, most=Fraction(1)):
    """A fraction from 0 to so much with a small bottom, 0 and the whole not seldom."""
    bottom = turns.between(1, 12)
    tops = [top for top in range(bottom + 1) if Fraction(top, bottom) <= most]
    return Fraction(turns.one_of([tops[0], tops[-1], turns.one_of(tops)]), bottom)


def kinds_by(turns, many=None):
    """Kinds that look like chance, some without loss."""
    many = many or turns.between(1, 6)
    kinds = []
    for _ in range(many):
        left = Fraction(1)
        goes = [Fraction(0)] * many
        for _ in range(turns.between(0, many)):
            place = turns.below(many)
            part = part_by(turns, left)
            if goes[place] == 0:
                goes[place] = part
                left -= part
        fresh = turns.one_of([0, 1, turns.below(1000), 10 ** 6])
        drip = turns.one_of([Fraction(1), part_by(turns), part_by(turns)])
        kinds.append((fresh, pair(drip), tuple(pair(part) for part in goes)))
    return kinds


def amounts_by(turns, many):
    """Amounts that look like chance."""
    return [pair(Fraction(turns.one_of([0, turns.below(5000), turns.below(10 ** 9)]), turns.between(1, 30))) for _ in range(many)]
