"""The kettles of a row: what is poured, ladled and skimmed, and boiled by the hour."""

from kettlerow.errors import InWork, NoKettle, Same, Stopped
from kettlerow.fracs import NOUGHT, sum_of
from kettlerow.juices import rest_of, share_of
from kettlerow.kettle import Kettle
from kettlerow.rows import SameRow
from kettlerow.shares import need_share
from kettlerow.vessels import need_some, poured_into


class Kettles:
    """The kettles of a row, each empty and in work at first."""

    def __init__(self, row):
        # A row of its own, so that nothing handed in is read later.
        self._row = SameRow(row)
        self._table = {name: Kettle(room, fire, mark) for name, room, fire, mark in row.kettles}
        self._hour = 0
        self._boiled = NOUGHT

    def boil_on(self, hours):
        """Boils the juice of each kettle in work for so many hours."""
        self._hour += hours
        for kettle in self._table.values():
            if kettle.at_work:
                self._boiled = sum_of(self._boiled, kettle.boil(hours))

    def pour(self, kettle, juice):
        """Pours juice into a kettle."""
        into = self._named(kettle)
        into.juice = poured_into(kettle, into.room, into.juice, juice)

    def dip(self, kettle, share):
        """Takes that share of its juice out of a kettle, and tells it."""
        source = self._named(kettle)
        need_share(share)
        need_some(kettle, source.juice)
        return self.take_out(kettle, share)

    def take_out(self, kettle, part):
        """Takes any part from 0 to 1 of its juice out of a kettle, and tells it."""
        source = self._named(kettle)
        taken = share_of(source.juice, part)
        source.juice = rest_of(source.juice, part)
        return taken

    def ladle(self, one, other, share):
        """Ladles that share of the juice of one kettle into another one, and tells it."""
        source = self._named(one)
        into = self._named(other)
        if one == other:
            raise Same(one)
        need_share(share)
        need_some(one, source.juice)
        into.juice = poured_into(other, into.room, into.juice, share_of(source.juice, share))
        return self.take_out(one, share)

    def skim(self, kettle, share, given, other):
        """Dips that share, pours what is given of it into the other kettle, loses the rest; tells both."""
        source = self._named(kettle)
        into = self._named(other)
        need_share(share)
        if given != NOUGHT:
            need_share(given)
        need_some(kettle, source.juice)
        skimmed = share_of(source.juice, share)
        left = rest_of(source.juice, share)
        poured = share_of(skimmed, given)
        before = left if kettle == other else into.juice
        behind = poured_into(other, into.room, before, poured)
        # In this order, as both may be one kettle.
        source.juice = left
        into.juice = behind
        return (poured, rest_of(skimmed, given))

    def stop(self, kettle):
        """Takes a kettle out of work."""
        stopped = self._named(kettle)
        if not stopped.at_work:
            raise Stopped(kettle)
        stopped.at_work = False

    def start(self, kettle):
        """Puts a kettle to work again."""
        started = self._named(kettle)
        if started.at_work:
            raise InWork(kettle)
        started.at_work = True

    def hour(self):
        """How many hours were boiled on."""
        return self._hour

    def kettle_names(self):
        """The names of the kettles, in the row's order."""
        return list(self._table)

    def juice_of(self, kettle):
        """The juice in a kettle."""
        return self._named(kettle).juice

    def in_work(self, kettle):
        """Whether a kettle is in work."""
        return self._named(kettle).at_work

    def is_ready(self, kettle):
        """Whether the strength of a kettle is just its mark."""
        return self._named(kettle).is_at_mark()

    def ready_at(self, kettle):
        """The hour from which on a kettle has its mark or more, if nothing else is done; None where it never has."""
        hours = self._named(kettle).hours_to_mark()
        if hours is None:
            return None
        return sum_of((self._hour, 1), hours)

    def boiled_off(self):
        """The water that was boiled off in all."""
        return self._boiled

    def like(self):
        """A Kettles of its own that tells the same."""
        other = Kettles(self._row)
        other._table = {name: self._table[name].twin() for name in self._table}
        other._hour = self._hour
        other._boiled = self._boiled
        return other

    def _named(self, name):
        """The kettle of that name; NoKettle(name) where there is none."""
        # Whether a name is ready or cured may be asked of lists, too, which are no keys.
        if not isinstance(name, str) or name not in self._table:
            raise NoKettle(name)
        return self._table[name]
