"""A book's account: the pages of its hours, which are written anew from the first hour that a telling changes."""

from kettlerow.page import Page
from kettlerow.rows import SameRow
from kettlerow.works import Works


class Account:
    """What the tellings of a book come to, hour by hour."""

    def __init__(self, row):
        self._row = SameRow(row)
        self._deeds = {}
        self._pages = []

    def take_in(self, number, hour, deed):
        """A deed is told for that hour."""
        self._deeds.setdefault(hour, {})[number] = deed
        del self._pages[hour:]

    def leave_out(self, number, hour):
        """A deed that was told for that hour isn't any more."""
        del self._deeds[hour][number]
        del self._pages[hour:]

    def page_of(self, hour):
        """The page of an hour."""
        self._write_to(hour)
        return self._pages[hour]

    def pages_of(self, first, last):
        """The pages from the first to the last hour."""
        self._write_to(last)
        return self._pages[first:last + 1]

    def like(self):
        """An Account of its own that tells the same."""
        other = Account(self._row)
        other._deeds = {hour: dict(self._deeds[hour]) for hour in self._deeds}
        # A page that is written is never changed, so both may read it.
        other._pages = list(self._pages)
        return other

    def _write_to(self, hour):
        """Writes the pages that are missing up to an hour."""
        while len(self._pages) <= hour:
            self._pages.append(self._next_page())

    def _next_page(self):
        """The page behind the last one."""
        hour = len(self._pages)
        if hour == 0:
            page = Page(hour, Works(self._row))
        else:
            ahead = self._pages[-1]
            works = ahead.behind.like()
            works.boil_on(1)
            page = Page(hour, works)
            page.try_again(ahead.strikes_left)
        for number, deed in self._deeds.get(hour, {}).items():
            page.do(number, deed)
        return page
