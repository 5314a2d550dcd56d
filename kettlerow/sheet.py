"""Sheets: a row's text, then rows of tellings and questions, each read as a tuple of its word and what stands there."""

from kettlerow.deeds import is_deed
from kettlerow.errors import BadRow
from kettlerow.fractext import frac_or_none
from kettlerow.names import is_name
from kettlerow.rowtext import row_from
from kettlerow.wholes import number_in

MOST_FIGURES = 7
# Behind each word stands how each word behind it is read.
DEEDS = {
    "juice": ("name", "number", "number"),
    "ladle": ("name", "name", "share"),
    "skim": ("name", "share", "share", "name"),
    "stop": ("name",),
    "start": ("name",),
    "drain": ("name",),
    "knock": ("name",),
    "drips": ("name", "share"),
}
ASKS = {
    "untell": ("number",),
    "juice": ("name", "number"),
    "ready": ("name", "number"),
    "filled": ("name", "number"),
    "bears": ("name", "number"),
    "loaves": ("number",),
    "vat": ("number",),
    "sums": ("number",),
    "waits": ("number",),
    "struck": ("number",),
    "voids": (),
    "count": (),
}


def sheet_in(text):
    """The Row of a sheet, and its tellings and questions; BadRow of the first row that can't stand there."""
    lines = text.split("\n")
    ahead = _rows_of_row(lines)
    row = row_from("\n".join(lines[:ahead]))
    asks = []
    for number, line in enumerate(lines[ahead:], start=ahead):
        ask = _ask_in(line.split(" "))
        if ask is None:
            raise BadRow(number)
        asks.append(ask)
    return (row, asks)


def _rows_of_row(lines):
    """How many rows are the row's text: those ahead of the first one that begins with another word than it has."""
    for number, line in enumerate(lines):
        if line.split(" ")[0] not in ("kettle", "mould"):
            return number
    return len(lines)


def _ask_in(words):
    """The telling ("at", hour, deed) or the question (word, ..) of some words; None where it isn't so written."""
    word, *rest = words
    if word == "at":
        return _telling_in(rest)
    if word not in ASKS:
        return None
    parts = _read_each(ASKS[word], rest)
    if parts is None:
        return None
    return (word,) + parts


def _telling_in(words):
    """The telling of an hour's word and the words of a deed; None where it isn't so written, or is no deed."""
    parts = _read_each(("number",), words[:1])
    deed = _deed_in(words[1:])
    if parts is None or not is_deed(deed):
        return None
    return ("at", parts[0], deed)


def _deed_in(words):
    """What the words of a deed tell, which needn't be a deed; None where they tell nothing."""
    match words:
        case ["strike", kettle, *pours]:
            parts = _read_each(("name", "share") * (len(pours) // 2), pours)
            if parts is None:
                return None
            return ("strike", kettle, tuple(zip(parts[::2], parts[1::2])))
        case [word, *rest]:
            parts = _read_each(DEEDS.get(word, ()), rest)
            if parts is None:
                return None
            return (word,) + parts
    return None


def _read_each(ways, words):
    """What the words tell, each read in its way; None where one can't be read so, or there are more or fewer."""
    if len(ways) != len(words):
        return None
    parts = [_read(way, word) for way, word in zip(ways, words)]
    if None in parts:
        return None
    return tuple(parts)


def _read(way, word):
    """What a word tells, read in that way; None where it can't be read so."""
    if way == "number":
        return number_in(word, MOST_FIGURES)
    if way == "share":
        return frac_or_none(word)
    if is_name(word):
        return word
    return None
