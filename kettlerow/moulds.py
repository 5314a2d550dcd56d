"""The moulds of a row, which are filled, drained and knocked out, and the vat that they drip into."""

from kettlerow.errors import Cured, NoMould, NotCured
from kettlerow.juices import NOTHING, mixed, rest_of, share_of
from kettlerow.mould import Mould
from kettlerow.rows import SameRow
from kettlerow.shares import need_share
from kettlerow.vessels import need_some, poured_into

VAT = "vat"


class Moulds:
    """The moulds of a row, each empty at first, and a vat, nothing in it."""

    def __init__(self, row):
        # A row of its own, so that nothing handed in is read later.
        self._row = SameRow(row)
        self._table = {name: Mould(room, drip) for name, room, drip in row.moulds}
        self._vat = NOTHING
        self._loaves = []

    def fill(self, strike, pours):
        """Pours each juice of the pairs (mould, juice), all of that strike, into its mould."""
        juices = self._juices_behind(pours)
        for name, juice in pours:
            mould = self._table[name]
            mould.juice = juices[name]
            mould.bear(strike, juice[0])

    def drain(self, mould):
        """Lets a mould drip into the vat, which cures it; tells what dripped."""
        drained = self._named(mould)
        need_some(mould, drained.juice)
        if drained.cured:
            raise Cured(mould)
        dripped = drained.drip_out()
        self._vat = mixed(self._vat, dripped)
        return dripped

    def knock(self, mould):
        """Knocks the loaf out of a cured mould; tells its sugar and the strikes that it bears."""
        knocked = self._named(mould)
        need_some(mould, knocked.juice)
        if not knocked.cured:
            raise NotCured(mould)
        sugar = knocked.juice[0]
        shares = knocked.strike_shares()
        knocked.clear_out()
        self._loaves.append((mould, sugar, shares))
        return (sugar, shares)

    def draw_off(self, share):
        """Takes that share of the vat's juice out of it, and tells it."""
        need_share(share)
        need_some(VAT, self._vat)
        drawn = share_of(self._vat, share)
        self._vat = rest_of(self._vat, share)
        return drawn

    def mould_names(self):
        """The names of the moulds, in the row's order."""
        return list(self._table)

    def juice_in(self, mould):
        """The juice in a mould."""
        return self._named(mould).juice

    def is_cured(self, mould):
        """Whether a mould is cured."""
        return self._named(mould).cured

    def bears(self, mould):
        """The rising pairs (strike, share): what share of a mould's sugar is of each strike."""
        return self._named(mould).strike_shares()

    def vat(self):
        """The juice in the vat."""
        return self._vat

    def loaves(self):
        """All loaves (mould, sugar, bears), as they went."""
        return list(self._loaves)

    def like(self):
        """A Moulds of its own that tells the same."""
        other = Moulds(self._row)
        other._table = {name: self._table[name].twin() for name in self._table}
        other._vat = self._vat
        other._loaves = list(self._loaves)
        return other

    def _juices_behind(self, pours):
        """What would be in each mould that is poured into, by its name; refused by the first pour at fault."""
        juices = {}
        for name, juice in pours:
            mould = self._named(name)
            if mould.cured:
                raise Cured(name)
            juices[name] = poured_into(name, mould.room, juices.get(name, mould.juice), juice)
        return juices

    def _named(self, name):
        """The mould of that name; NoMould(name) where there is none."""
        # Whether a name is ready or cured may be asked of lists, too, which are no keys.
        if not isinstance(name, str) or name not in self._table:
            raise NoMould(name)
        return self._table[name]
