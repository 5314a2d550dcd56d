"""What a deed is, told without the program, and deeds of all forms that look like chance."""

import re
from fractions import Fraction
from math import gcd

from helpers import FORTY, pair
from spoilt import is_plain

FORMS = {
    "juice": "nj", "ladle": "nnf", "skim": "nffn", "stop": "n", "start": "n", "strike": "np", "drain": "n", "knock": "n", "drips": "nf",
}


def is_model_name(thing):
    return type(thing) is str and re.fullmatch("[a-z]{1,8}", thing) is not None and "\n" not in thing


def is_model_told_frac(thing):
    if type(thing) is not tuple or len(thing) != 2 or not all(is_plain(part) for part in thing):
        return False
    top, bottom = thing
    return 0 < bottom <= FORTY and -FORTY <= top <= FORTY and gcd(top, bottom) == 1


def are_model_pours(thing):
    if type(thing) not in (list, tuple) or len(thing) not in range(1, 13):
        return False
    return all(type(one) is tuple and len(one) == 2 and is_model_name(one[0]) and is_model_told_frac(one[1]) for one in thing)


def is_model_deed(thing):
    """Whether a thing is a deed."""
    if type(thing) is not tuple or not thing or type(thing[0]) is not str or thing[0] not in FORMS:
        return False
    word, *rest = thing
    if word == "juice":
        if len(rest) != 3 or not is_model_name(rest[0]):
            return False
        return all(is_plain(part) and part in range(10 ** 6 + 1) for part in rest[1:]) and any(rest[1:])
    checks = {"n": is_model_name, "f": is_model_told_frac, "p": are_model_pours}
    return len(rest) == len(FORMS[word]) and all(checks[form](part) for form, part in zip(FORMS[word], rest))


def frac_by(turns):
    """A fraction that needn't be a share."""
    if turns.below(3) == 0:
        return turns.one_of([(FORTY, 1), (-FORTY, 1), (1, FORTY), (FORTY - 1, FORTY), (0, 1), (-1, 2), (13, 12), (1, 13)])
    return pair(Fraction(turns.between(0, 12), turns.between(1, 12)))


def any_deed(turns):
    """A deed of any form, its names not those of a row."""
    names = ["a", "abcdefgh", "vat", "kettle", "zzzzzzzz", "juice"]
    word = turns.one_of(list(FORMS))
    parts = []
    for form in FORMS[word]:
        if form == "n":
            parts.append(turns.one_of(names))
        elif form == "f":
            parts.append(frac_by(turns))
        elif form == "j":
            parts += turns.one_of([[0, 1], [1, 0], [10 ** 6, 10 ** 6], [turns.below(10 ** 6), 5]])
        else:
            pours = [(turns.one_of(names), frac_by(turns)) for _ in range(turns.one_of([1, 2, 12]))]
            parts.append(pours if turns.below(2) else tuple(pours))
    return (word, *parts)
