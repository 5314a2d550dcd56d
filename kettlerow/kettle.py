"""One kettle by itself."""

from kettlerow.boiling import boiled_down, ready_in
from kettlerow.fracs import difference
from kettlerow.juices import NOTHING, strength_of


class Kettle:
    """A kettle: how it is made, the juice in it, and whether it is in work."""

    def __init__(self, room, fire, mark):
        self.room = room
        self.fire = fire
        self.mark = mark
        self.juice = NOTHING
        self.at_work = True

    def boil(self, hours):
        """Boils its juice for so many hours, and tells the water that went off."""
        water = self.juice[1]
        self.juice = boiled_down(self.juice, self.fire, self.mark, (hours, 1))
        return difference(water, self.juice[1])

    def is_at_mark(self):
        """Whether the strength of its juice is just its mark."""
        return strength_of(self.juice) == self.mark

    def hours_to_mark(self):
        """The hours behind which its juice has its mark or more; None where it never has."""
        fire = self.fire if self.at_work else 0
        return ready_in(self.juice, fire, self.mark)

    def twin(self):
        """A kettle of its own that is just so."""
        other = Kettle(self.room, self.fire, self.mark)
        other.juice = self.juice
        other.at_work = self.at_work
        return other
