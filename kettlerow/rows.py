"""Rows: the kettles and moulds that there are, and how each is made."""

from kettlerow.errors import BadKettles, BadMoulds
from kettlerow.fracs import is_frac
from kettlerow.names import are_unlike, is_name
from kettlerow.wholes import is_number_within

MOST_KETTLES = 8
MOST_MOULDS = 40
MOST_ROOM = 10 ** 6
MOST_FIRE = 10 ** 4
MOST_MARK_BOTTOM = 60
MOST_DRIP_BOTTOM = 12


class Row:
    """A row's fields: kettles, tuples (name, room, fire, mark), and moulds, tuples (name, room, drip)."""

    def __init__(self, kettles, moulds):
        kettles = tuple(kettles)
        moulds = tuple(moulds)
        if not _can_be_kettles(kettles):
            raise BadKettles(kettles)
        if not _can_be_moulds(moulds, kettles):
            raise BadMoulds(moulds)
        self.kettles = kettles
        self.moulds = moulds


class SameRow:
    """The fields of a Row, taken over as they are: what needs no Row that is checked again takes this for one."""

    def __init__(self, row):
        self.kettles = row.kettles
        self.moulds = row.moulds


def is_kettle(thing):
    """Whether a thing is a kettle (name, room, fire, mark) that a row can have."""
    if not isinstance(thing, tuple) or len(thing) != 4:
        return False
    name, room, fire, mark = thing
    return _are_name_and_room(name, room) and is_number_within(fire, 0, MOST_FIRE) and _is_mark(mark)


def is_mould(thing):
    """Whether a thing is a mould (name, room, drip) that a row can have."""
    if not isinstance(thing, tuple) or len(thing) != 3:
        return False
    name, room, drip = thing
    return _are_name_and_room(name, room) and _is_drip(drip)


def _can_be_kettles(things):
    """Whether a tuple of things can be all the kettles of a row."""
    if not 1 <= len(things) <= MOST_KETTLES or not all(is_kettle(thing) for thing in things):
        return False
    return are_unlike([thing[0] for thing in things])


def _can_be_moulds(things, kettles):
    """Whether a tuple of things can be all the moulds of a row that has these kettles."""
    if len(things) > MOST_MOULDS or not all(is_mould(thing) for thing in things):
        return False
    return are_unlike([one[0] for one in kettles + things])


def _are_name_and_room(name, room):
    """Whether these are a NAME and a room."""
    return is_name(name) and is_number_within(room, 1, MOST_ROOM)


def _is_mark(thing):
    """Whether a thing is a mark that a kettle can have."""
    return is_frac(thing) and 0 < thing[0] < thing[1] <= MOST_MARK_BOTTOM


def _is_drip(thing):
    """Whether a thing is a drip that a mould can have."""
    return is_frac(thing) and 0 <= thing[0] < thing[1] <= MOST_DRIP_BOTTOM
