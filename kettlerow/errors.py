"""What is refused: one class for each kind of refusal."""


class BoilError(ValueError):
    """A refusal; its field what is what was refused."""

    def __init__(self, what):
        self.what = what


class BadFrac(BoilError):
    """A text that is not how a fraction is written."""

    def __init__(self, what):
        self.what = what


class BadKettles(BoilError):
    """Kettles that no row can have."""

    def __init__(self, what):
        self.what = what


class BadMoulds(BoilError):
    """Moulds that no row can have."""

    def __init__(self, what):
        self.what = what


class BadRow(BoilError):
    """A row of a text that can't stand there."""

    def __init__(self, what):
        self.what = what


class BadDeed(BoilError):
    """A thing that is no deed."""

    def __init__(self, what):
        self.what = what


class NoKettle(BoilError):
    """A name that is no kettle's."""

    def __init__(self, what):
        self.what = what


class NoMould(BoilError):
    """A name that is no mould's."""

    def __init__(self, what):
        self.what = what


class NoShare(BoilError):
    """A fraction that is no share."""

    def __init__(self, what):
        self.what = what


class NoRoom(BoilError):
    """A kettle or a mould that has no room for so much."""

    def __init__(self, what):
        self.what = what


class NoHour(BoilError):
    """A number that is no hour."""

    def __init__(self, what):
        self.what = what


class NoTelling(BoilError):
    """A number that is no telling's."""

    def __init__(self, what):
        self.what = what


class NoSteady(BoilError):
    """Kinds that lose nothing, so that no steady state is told."""

    def __init__(self, what):
        self.what = what


class Empty(BoilError):
    """A kettle, a mould or a vat in which nothing is."""

    def __init__(self, what):
        self.what = what


class Same(BoilError):
    """A kettle that was named as both."""

    def __init__(self, what):
        self.what = what


class Stopped(BoilError):
    """A kettle that isn't in work."""

    def __init__(self, what):
        self.what = what


class InWork(BoilError):
    """A kettle that is in work."""

    def __init__(self, what):
        self.what = what


class NotReady(BoilError):
    """A strike of juice below its kettle's mark."""

    def __init__(self, what):
        self.what = what


class TooStrong(BoilError):
    """A strike of juice above its kettle's mark."""

    def __init__(self, what):
        self.what = what


class Cured(BoilError):
    """A mould that is cured."""

    def __init__(self, what):
        self.what = what


class NotCured(BoilError):
    """A mould that is not cured."""

    def __init__(self, what):
        self.what = what
