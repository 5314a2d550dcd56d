"""Rows as texts: a row of words for each kettle, then one for each mould."""

from kettlerow.errors import BadRow
from kettlerow.fractext import frac_or_none, frac_text
from kettlerow.rows import MOST_KETTLES, MOST_MOULDS, Row, is_kettle, is_mould
from kettlerow.wholes import figures_of, number_in

MOST_FIGURES = 7


def row_text(row):
    """The text of a row."""
    lines = []
    for name, room, fire, mark in row.kettles:
        lines.append(" ".join(["kettle", name, figures_of(room), figures_of(fire), frac_text(mark)]))
    for name, room, drip in row.moulds:
        lines.append(" ".join(["mould", name, figures_of(room), frac_text(drip)]))
    return "\n".join(lines)


def row_from(text):
    """The Row of a text; BadRow of the number of its first row that can't stand there."""
    lines = text.split("\n")
    kettles = []
    moulds = []
    for number, line in enumerate(lines):
        thing = _thing_in(line.split(" "))
        if not _can_stand(thing, kettles, moulds):
            raise BadRow(number)
        if is_kettle(thing):
            kettles.append(thing)
        else:
            moulds.append(thing)
    if not kettles:
        raise BadRow(len(lines))
    return Row(kettles, moulds)


def _thing_in(words):
    """What the words of a row tell, which needn't be a kettle or a mould; () where they tell nothing."""
    match words:
        case ["kettle", name, room, fire, mark]:
            return (name, number_in(room, MOST_FIGURES), number_in(fire, MOST_FIGURES), frac_or_none(mark))
        case ["mould", name, room, drip]:
            return (name, number_in(room, MOST_FIGURES), frac_or_none(drip))
    return ()


def _can_stand(thing, kettles, moulds):
    """Whether a thing can stand behind these kettles and moulds."""
    if is_kettle(thing):
        fits = not moulds and len(kettles) < MOST_KETTLES
    else:
        fits = is_mould(thing) and len(moulds) < MOST_MOULDS
    return fits and thing[0] not in [one[0] for one in kettles + moulds]
