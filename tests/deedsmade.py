"""Things to do with kettles, moulds and works that look like chance, refused ones among them."""

from fractions import Fraction

from helpers import juice

FAULTY_SHARES = [(0, 1), (-1, 2), (3, 2), (1, 13)]


def share_by(turns):
    """A share, or now and then what is none."""
    if turns.below(12) == 0:
        return turns.one_of(FAULTY_SHARES)
    bottom = turns.between(1, 12)
    part = Fraction(turns.between(1, bottom), bottom)
    return (part.numerator, part.denominator)


def name_by(turns, names, other):
    """One of the names, or now and then another one."""
    return other if turns.below(25) == 0 else turns.one_of(names)


def amount_by(turns, most):
    """A number or a fraction from 0 to so much."""
    return Fraction(turns.between(0, most * 6), turns.one_of([6, 6, 12, 18, 60]))


def kettle_call(turns, names, most=400):
    """A method of a Kettles and its arguments."""
    one, other = name_by(turns, names, "pot"), name_by(turns, names, "pan")
    word = turns.one_of(["pour", "pour", "dip", "ladle", "ladle", "ladle", "skim", "skim", "stop", "start", "boil_on", "boil_on"])
    if word == "pour":
        return (word, one, juice(amount_by(turns, most // 4) + Fraction(1, 60), amount_by(turns, most)))
    if word == "dip":
        return (word, one, share_by(turns))
    if word == "ladle":
        return (word, one, other, share_by(turns))
    if word == "skim":
        return (word, one, share_by(turns), turns.one_of([(0, 1), share_by(turns), share_by(turns)]), other)
    if word == "boil_on":
        return (word, turns.one_of([0, 1, 1, 2, 5, 30]))
    return (word, one)


def mould_call(turns, names, most=40):
    """A method of a Moulds and its arguments."""
    mould = name_by(turns, names, "pot")
    word = turns.one_of(["fill", "fill", "fill", "drain", "drain", "knock", "draw_off"])
    if word == "fill":
        pours = []
        for _ in range(turns.one_of([1, 1, 1, 2, 3])):
            poured = juice(amount_by(turns, most // 2) + Fraction(1, 60), amount_by(turns, most // 2))
            pours.append((name_by(turns, names, "pan"), poured))
        return (word, turns.between(1, 9), pours if turns.below(2) else tuple(pours))
    if word == "draw_off":
        return (word, share_by(turns))
    return (word, mould)


def deed(turns, kettles, moulds, most=400):
    """A deed for works."""
    one, other = name_by(turns, kettles, "pot"), name_by(turns, kettles, "pan")
    mould = name_by(turns, moulds, "hat")
    word = turns.one_of([
        "juice", "juice", "juice", "ladle", "ladle", "ladle", "skim", "stop", "start", "start", "strike", "strike", "strike", "strike",
        "drain", "drain", "knock", "knock", "drips",
    ])
    if word == "juice":
        return (word, one, turns.between(1, most // 4), turns.between(0, most))
    if word == "ladle":
        return (word, one, other, share_by(turns))
    if word == "skim":
        return (word, one, share_by(turns), turns.one_of([(0, 1), share_by(turns)]), other)
    if word == "strike":
        pours = []
        for _ in range(turns.one_of([1, 1, 2, 3, 12])):
            small = (1, turns.between(2, 12))
            pours.append((name_by(turns, moulds, "cap"), turns.one_of([small, small, small, share_by(turns)])))
        return (word, one, pours if turns.below(2) else tuple(pours))
    if word == "drips":
        return (word, one, share_by(turns))
    return (word, mould if word in ("drain", "knock") else one)
