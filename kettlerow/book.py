"""A book of tellings: deeds told for hours, in any order, and what they come to."""

from kettlerow.account import Account
from kettlerow.deeds import in_tuples, is_deed
from kettlerow.errors import BadDeed, NoHour, NoTelling
from kettlerow.rows import SameRow

LAST_HOUR = 200


class Book:
    """Tellings, each with its number, and the account that goes through the hours with works of a row."""

    def __init__(self, row):
        self._row = SameRow(row)
        self._account = Account(row)
        self._told = {}
        self._given = 0

    def tell(self, hour, deed):
        """Tells a deed for an hour; what is told is the telling's number."""
        _need_hour(hour)
        if not is_deed(deed):
            raise BadDeed(_of_its_own(deed))
        kept = in_tuples(deed)
        self._given += 1
        self._told[self._given] = (hour, kept)
        self._account.take_in(self._given, hour, kept)
        return self._given

    def untell(self, number):
        """A telling is as if it had never been told."""
        hour, _ = self._telling(number)
        del self._told[number]
        self._account.leave_out(number, hour)

    def tellings(self):
        """The tellings (number, hour, deed) that stand, by their numbers."""
        return [(number, hour, deed) for number, (hour, deed) in self._told.items()]

    def works(self, hour):
        """A Works of its own as it stands behind the deeds of an hour."""
        _need_hour(hour)
        return self._account.page_of(hour).behind.like()

    def done_by(self, hour):
        """All that is done to an hour, (number, hour, answer), in order."""
        _need_hour(hour)
        pages = self._account.pages_of(0, hour)
        return [(number, page.when, answer) for page in pages for number, answer in page.done.items()]

    def waiting(self, hour):
        """The rising numbers of the strikes that wait behind an hour."""
        _need_hour(hour)
        return self._account.page_of(hour).numbers_waiting()

    def voids(self):
        """The void tellings (number, hour, word), as they come in the account."""
        pages = self._account.pages_of(0, LAST_HOUR)
        return [(number, page.when, word) for page in pages for number, word in page.void.items()]

    def struck_at(self, number):
        """The hour at which a told strike is done; None where none is."""
        hour, deed = self._telling(number)
        if deed[0] != "strike":
            raise NoTelling(number)
        for page in self._account.pages_of(hour, LAST_HOUR):
            if number in page.done:
                return page.when
        return None

    def like(self):
        """A Book of its own that tells the same, numbers, too."""
        other = Book(self._row)
        other._account = self._account.like()
        other._told = dict(self._told)
        other._given = self._given
        return other

    def _telling(self, number):
        """The hour and the deed of a telling; NoTelling(number) where none stands."""
        if number not in self._told:
            raise NoTelling(number)
        return self._told[number]


def _need_hour(hour):
    """Refuses with NoHour(hour) a number that is no hour of a book."""
    if not 0 <= hour <= LAST_HOUR:
        raise NoHour(hour)


def _of_its_own(thing):
    """A thing like the one handed in, whose lists are none of its lists."""
    if isinstance(thing, list):
        return [_of_its_own(part) for part in thing]
    if isinstance(thing, tuple):
        return tuple([_of_its_own(part) for part in thing])
    return thing
