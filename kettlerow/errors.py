"""What is refused: one class for each kind of refusal."""


class BoilError(ValueError):
    """A refusal; its field what is what was refused."""

    def __init__(self, what):
        self.what = what


class BadFrac(BoilError):
    """A text that is not how a fraction is written."""


class BadKettles(BoilError):
    """Kettles that no row can have."""


class BadMoulds(BoilError):
    """Moulds that no row can have."""


class BadRow(BoilError):
    """A row of a text that can't stand there."""


class BadDeed(BoilError):
    """A thing that is no deed."""


class NoKettle(BoilError):
    """A name that is no kettle's."""


class NoMould(BoilError):
    """A name that is no mould's."""


class NoShare(BoilError):
    """A fraction that is no share."""


class NoRoom(BoilError):
    """A kettle or a mould that has no room for so much."""


class NoHour(BoilError):
    """A number that is no hour."""


class NoTelling(BoilError):
    """A number that is no telling's."""


class NoSteady(BoilError):
    """Kinds that lose nothing, so that no steady state is told."""


class Empty(BoilError):
    """A kettle, a mould or a vat in which nothing is."""


class Same(BoilError):
    """A kettle that was named as both."""


class Stopped(BoilError):
    """A kettle that isn't in work."""


class InWork(BoilError):
    """A kettle that is in work."""


class NotReady(BoilError):
    """A strike of juice below its kettle's mark."""


class TooStrong(BoilError):
    """A strike of juice above its kettle's mark."""


class Cured(BoilError):
    """A mould that is cured."""


class NotCured(BoilError):
    """A mould that is not cured."""
