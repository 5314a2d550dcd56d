"""What is refused: one class for each kind of refusal."""


class BoilError(ValueError):
    """A refusal; its field what is what was refused, its field word is the class's name."""

    def __init__(self, what):
        self.what = what
        self.word = self.__class__.__name__


class BadFrac(BoilError):
    """A text that is not how a fraction is written."""

    def __init__(self, what):
        self.what = what
        self.word = self.__class__.__name__


class BadKettles(BoilError):
    """Kettles that no row can have."""

    def __init__(self, what):
        self.what = what
        self.word = self.__class__.__name__


class BadMoulds(BoilError):
    """Moulds that no row can have."""

    def __init__(self, what):
        self.what = what
        self.word = self.__class__.__name__


class BadRow(BoilError):
    """A row of a text that can't stand there."""

    def __init__(self, what):
        self.what = what
        self.word = self.__class__.__name__


class BadDeed(BoilError):
    """A thing that is no deed."""

    def __init__(self, what):
        self.what = what
        self.word = self.__class__.__name__


class NoKettle(BoilError):
    """A name that is no kettle's."""

    def __init__(self, what):
        self.what = what
        self.word = self.__class__.__name__


class NoMould(BoilError):
    """A name that is no mould's."""

    def __init__(self, what):
        self.what = what
        self.word = self.__class__.__name__


class NoShare(BoilError):
    """A fraction that is no share."""

    def __init__(self, what):
        self.what = what
        self.word = self.__class__.__name__


class NoRoom(BoilError):
    """A kettle or a mould that has no room for so much."""

    def __init__(self, what):
        self.what = what
        self.word = self.__class__.__name__


class NoHour(BoilError):
    """A number that is no hour."""

    def __init__(self, what):
        self.what = what
        self.word = self.__class__.__name__


class NoTelling(BoilError):
    """A number that is no telling's."""

    def __init__(self, what):
        self.what = what
        self.word = self.__class__.__name__


class NoSteady(BoilError):
    """Kinds that lose nothing, so that no steady state is told."""

    def __init__(self, what):
        self.what = what
        self.word = self.__class__.__name__


class Empty(BoilError):
    """A kettle, a mould or a vat in which nothing is."""

    def __init__(self, what):
        self.what = what
        self.word = self.__class__.__name__


class Same(BoilError):
    """A kettle that was named as both."""

    def __init__(self, what):
        self.what = what
        self.word = self.__class__.__name__


class Stopped(BoilError):
    """A kettle that isn't in work."""

    def __init__(self, what):
        self.what = what
        self.word = self.__class__.__name__


class InWork(BoilError):
    """A kettle that is in work."""

    def __init__(self, what):
        self.what = what
        self.word = self.__class__.__name__


class NotReady(BoilError):
    """A strike of juice below its kettle's mark."""

    def __init__(self, what):
        self.what = what
        self.word = self.__class__.__name__


class TooStrong(BoilError):
    """A strike of juice above its kettle's mark."""

    def __init__(self, what):
        self.what = what
        self.word = self.__class__.__name__


class Cured(BoilError):
    """A mould that is cured."""

    def __init__(self, what):
        self.what = what
        self.word = self.__class__.__name__


class NotCured(BoilError):
    """A mould that is not cured."""

    def __init__(self, what):
        self.what = what
        self.word = self.__class__.__name__
