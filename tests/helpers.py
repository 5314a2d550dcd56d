"""What several tests need: Python's own fractions there and back, and numbers that look like chance."""

from fractions import Fraction

from kettlerow.errors import BoilError

FORTY = 10 ** 40 - 1


def pair(value):
    """The tuple that a number or a Fraction of Python's is here."""
    value = Fraction(value)
    return (value.numerator, value.denominator)


def juice(sugar, water):
    """The juice of two numbers or Fractions of Python's."""
    return (pair(sugar), pair(water))


def values(one):
    """A juice as two Fractions of Python's."""
    return (Fraction(*one[0]), Fraction(*one[1]))


def refusal(call, *arguments):
    """The class's name and the what of the refusal of a call; None where it isn't refused."""
    try:
        call(*arguments)
    except BoilError as error:
        return (type(error).__name__, error.what)
    return None


def told_or_refused(call, *arguments):
    """What a call tells, or the class's name and the what of its refusal."""
    try:
        return ("told", call(*arguments))
    except BoilError as error:
        return (type(error).__name__, error.what)


def is_tuples_through(thing):
    """Whether a thing is made of tuples, texts and plain numbers alone."""
    if type(thing) is tuple:
        return all(is_tuples_through(part) for part in thing)
    return type(thing) in (int, str)


class Turns:
    """Numbers that look like chance and are the same in each run."""

    def __init__(self, seed):
        self.state = seed * 2654435761 + 12345

    def below(self, many):
        self.state = (self.state * 6364136223846793005 + 1442695040888963407) & (2 ** 64 - 1)
        return (self.state >> 33) * many >> 31

    def between(self, least, most):
        return least + self.below(most - least + 1)

    def one_of(self, things):
        return things[self.below(len(things))]


def kettles_told(kettles):
    """All that a Kettles tells when it is asked."""
    names = kettles.kettle_names()
    each = [
        (kettles.juice_of(name), kettles.in_work(name), kettles.is_ready(name), kettles.ready_at(name)) for name in names
    ]
    return (kettles.hour(), names, each, kettles.boiled_off())


def moulds_told(moulds):
    """All that a Moulds tells when it is asked."""
    names = moulds.mould_names()
    each = [(moulds.juice_in(name), moulds.is_cured(name), moulds.bears(name)) for name in names]
    return (names, each, moulds.vat(), moulds.loaves())


def works_told(works):
    """All that a Works tells when it is asked."""
    return (kettles_told(works.kettles_now()), moulds_told(works.moulds_now()), works.strikes(), works.sums())
