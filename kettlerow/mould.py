"""One mould by itself."""

from kettlerow.fracs import NOUGHT, difference, product, quotient, sum_of
from kettlerow.juices import NOTHING


class Mould:
    """A mould: how it is made, the juice in it, the sugar poured of each strike, and whether it is cured."""

    def __init__(self, room, drip):
        self.room = room
        self.drip = drip
        self.juice = NOTHING
        self.sugars = {}
        self.cured = False

    def bear(self, strike, sugar):
        """So much of the sugar poured into it is of that strike."""
        self.sugars[strike] = sum_of(self.sugars.get(strike, NOUGHT), sugar)

    def strike_shares(self):
        """The rising pairs (strike, share) of the strikes that it bears."""
        # The drip takes of all strikes alike, so the shares are those of the sugar as it was poured.
        whole = NOUGHT
        for sugar in self.sugars.values():
            whole = sum_of(whole, sugar)
        return tuple([(strike, quotient(self.sugars[strike], whole)) for strike in sorted(self.sugars)])

    def drip_out(self):
        """Cures it: tells the juice that drips out of it."""
        sugar, water = self.juice
        dripped = product(sugar, self.drip)
        self.juice = (difference(sugar, dripped), NOUGHT)
        self.cured = True
        return (dripped, water)

    def clear_out(self):
        """Leaves nothing in it."""
        self.juice = NOTHING
        self.sugars = {}
        self.cured = False

    def twin(self):
        """A mould of its own that is just so."""
        other = Mould(self.room, self.drip)
        other.juice = self.juice
        other.sugars = dict(self.sugars)
        other.cured = self.cured
        return other
