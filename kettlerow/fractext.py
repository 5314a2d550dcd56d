"""Fractions as texts, such as 5, -5 and 1/2."""

from kettlerow.errors import BadFrac
from kettlerow.fracs import is_frac
from kettlerow.wholes import are_figures, figures_of

MOST_FIGURES = 40


def frac_text(one):
    """The text of a fraction: its top, and its bottom where that isn't 1."""
    top, bottom = one
    text = figures_of(abs(top))
    if top < 0:
        text = "-" + text
    if bottom != 1:
        text = text + "/" + figures_of(bottom)
    return text


def frac_in(text):
    """The fraction whose text this just is; BadFrac where there is none, or a longer one."""
    one = _read(text)
    # Written again it shows what reading lets pass: noughts ahead, -0, a bottom of 1.
    if not is_frac(one) or frac_text(one) != text:
        raise BadFrac(text)
    return one


def frac_or_none(text):
    """The fraction whose text this just is; None where there is none, or a longer one."""
    try:
        return frac_in(text)
    except BadFrac:
        return None


def _read(text):
    """The top and the bottom that a text names, in whatever terms; None where it names none."""
    top, stroke, bottom = text.removeprefix("-").partition("/")
    if not stroke:
        bottom = "1"
    if not are_figures(top, MOST_FIGURES) or not are_figures(bottom, MOST_FIGURES):
        return None
    if text.startswith("-"):
        return (-int(top), int(bottom))
    return (int(top), int(bottom))
