"""One page of a book's account: an hour, what is done in it, and what waits behind it."""

from kettlerow.errors import BoilError

WORDS_OF_WAITING = ("Empty", "NotReady", "TooStrong", "Cured", "NoRoom")


class Page:
    """An hour: the works behind its deeds, the answers of those done and the words of those void, by their numbers."""

    def __init__(self, hour, works):
        self.when = hour
        self.behind = works
        self.done = {}
        self.void = {}
        self.strikes_left = []

    def try_again(self, strikes):
        """Tries the strikes that wait behind the hour ahead, in their order."""
        if not strikes:
            return
        kettles = self.behind.kettles_now()
        # Strikes alone make no kettle ready, so those that aren't so now needn't be asked again in this hour.
        ready = [name for name in kettles.kettle_names() if kettles.is_ready(name)]
        for strike in strikes:
            if strike.kettle in ready and strike.basis != self.behind.basis_of(strike.deed):
                self.do(strike.number, strike.deed)
            else:
                self.strikes_left.append(strike)

    def do(self, number, deed):
        """Does the deed of a telling: then it is done, or void, or waits."""
        try:
            self.done[number] = self.behind.do(deed)
        except BoilError as refusal:
            if deed[0] == "strike" and refusal.word in WORDS_OF_WAITING:
                self.strikes_left.append(WaitingStrike(number, deed, self.behind.basis_of(deed)))
            else:
                self.void[number] = refusal.word

    def numbers_waiting(self):
        """The rising numbers of the strikes that wait."""
        return sorted([strike.number for strike in self.strikes_left])


class WaitingStrike:
    """A told strike that was refused, with what that rests on: while this is the same, it would be refused again."""

    def __init__(self, number, deed, basis):
        self.number = number
        self.deed = deed
        self.kettle = deed[1]
        self.basis = basis
