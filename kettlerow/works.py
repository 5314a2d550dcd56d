"""Works: the kettles and the moulds of a row together, and the deeds that are done with them."""

from kettlerow.errors import NoMould, NoShare, NotReady, TooStrong
from kettlerow.fracs import NOUGHT, ONE, is_lesser, sum_of
from kettlerow.juices import NOTHING, all_mixed, mixed, share_of, strength_of
from kettlerow.kettles import Kettles
from kettlerow.moulds import VAT, Moulds
from kettlerow.rows import SameRow
from kettlerow.shares import need_share
from kettlerow.vessels import need_some


class Works:
    """The kettles and moulds of a row, and what came to them, went out as loaves and was lost."""

    def __init__(self, row):
        # A row of its own, so that nothing handed in is read later.
        self._row = SameRow(row)
        self._kettles = Kettles(row)
        self._moulds = Moulds(row)
        self._struck = []
        self._came = NOTHING
        self._lost = NOTHING
        self._in_loaves = NOUGHT

    def boil_on(self, hours):
        """Boils the juice of each kettle in work for so many hours."""
        self._kettles.boil_on(hours)

    def do(self, deed):
        """Does a deed, and tells its answer."""
        match deed:
            case ("juice", kettle, sugar, water):
                return self._juice(kettle, ((sugar, 1), (water, 1)))
            case ("ladle", one, other, share):
                return ("ladle", self._kettles.ladle(one, other, share))
            case ("skim", kettle, share, given, other):
                return self._skim(kettle, share, given, other)
            case ("stop", kettle):
                self._kettles.stop(kettle)
                return ("stop",)
            case ("start", kettle):
                self._kettles.start(kettle)
                return ("start",)
            case ("strike", kettle, pours):
                return self._strike(kettle, pours)
            case ("drain", mould):
                return ("drain", self._moulds.drain(mould))
            case ("knock", mould):
                return self._knock(mould)
            case ("drips", kettle, share):
                return self._drips(kettle, share)

    def kettles_now(self):
        """A Kettles of its own that tells what these kettles tell now."""
        return self._kettles.like()

    def moulds_now(self):
        """A Moulds of its own that tells what these moulds tell now."""
        return self._moulds.like()

    def basis_of(self, strike):
        """What it rests on that a strike is refused for now: while this is the same, it is refused again."""
        _, kettle, pours = strike
        moulds = [(self._moulds.juice_in(mould), self._moulds.is_cured(mould)) for mould, _ in pours]
        return (self._kettles.juice_of(kettle), moulds)

    def strikes(self):
        """All strikes (number, hour, kettle, filled), in order."""
        return list(self._struck)

    def sums(self):
        """The sums of sugar and of water: what came, and all the places where it is."""
        kettles = all_mixed([self._kettles.juice_of(name) for name in self._kettles.kettle_names()])
        moulds = all_mixed([self._moulds.juice_in(name) for name in self._moulds.mould_names()])
        vat = self._moulds.vat()
        boiled = self._kettles.boiled_off()
        return (
            (self._came[0], kettles[0], moulds[0], vat[0], self._in_loaves, self._lost[0]),
            (self._came[1], kettles[1], moulds[1], vat[1], boiled, self._lost[1]),
        )

    def like(self):
        """A Works of its own that tells the same."""
        other = Works(self._row)
        other._kettles = self._kettles.like()
        other._moulds = self._moulds.like()
        other._struck = list(self._struck)
        other._came = self._came
        other._lost = self._lost
        other._in_loaves = self._in_loaves
        return other

    def _juice(self, kettle, juice):
        """Juice comes to a kettle."""
        self._kettles.pour(kettle, juice)
        self._came = mixed(self._came, juice)
        return ("juice",)

    def _skim(self, kettle, share, given, other):
        """A kettle is skimmed, and what isn't poured again is lost."""
        poured, lost = self._kettles.skim(kettle, share, given, other)
        self._lost = mixed(self._lost, lost)
        return ("skim", poured, lost)

    def _strike(self, kettle, pours):
        """A kettle that is ready is struck into moulds."""
        juice = self._kettles.juice_of(kettle)
        whole = self._shares_together(pours)
        self._need_ready(kettle, juice)
        number = len(self._struck) + 1
        filled = tuple([(mould, share_of(juice, share)) for mould, share in pours])
        self._moulds.fill(number, filled)
        self._kettles.take_out(kettle, whole)
        self._struck.append((number, self._kettles.hour(), kettle, filled))
        return ("strike", number, filled)

    def _shares_together(self, pours):
        """The shares of all pours together; refused by the first at fault, or where they are above 1."""
        moulds = self._moulds.mould_names()
        whole = NOUGHT
        for mould, share in pours:
            if mould not in moulds:
                raise NoMould(mould)
            need_share(share)
            whole = sum_of(whole, share)
        if is_lesser(ONE, whole):
            raise NoShare(whole)
        return whole

    def _need_ready(self, kettle, juice):
        """Refuses to strike a kettle whose strength isn't just its mark."""
        need_some(kettle, juice)
        if self._kettles.is_ready(kettle):
            return
        when = self._kettles.ready_at(kettle)
        # The hour is told of what has its mark or more now, so here of what has more.
        if when == (self._kettles.hour(), 1):
            raise TooStrong(strength_of(juice))
        raise NotReady(when)

    def _knock(self, mould):
        """A loaf is knocked out of a mould."""
        sugar, shares = self._moulds.knock(mould)
        self._in_loaves = sum_of(self._in_loaves, sugar)
        return ("knock", sugar, shares)

    def _drips(self, kettle, share):
        """A share of the vat goes back into a kettle."""
        # The kettle's refusals stand around the vat's, so the vat is drawn off when nothing can be refused.
        self._kettles.juice_of(kettle)
        need_share(share)
        vat = self._moulds.vat()
        need_some(VAT, vat)
        self._kettles.pour(kettle, share_of(vat, share))
        return ("drips", self._moulds.draw_off(share))
