"""What is refused alike of a kettle, a mould and the vat: to take from an empty one, to fill above the room."""

from kettlerow.errors import Empty, NoRoom
from kettlerow.fracs import is_lesser
from kettlerow.juices import NOTHING, mixed, volume_of


def need_some(name, juice):
    """Refuses with Empty(name) where the juice in it is nothing."""
    if juice == NOTHING:
        raise Empty(name)


def poured_into(name, room, juice, more):
    """The juice in it with more of it; NoRoom(name) where its volume would be above its room."""
    whole = mixed(juice, more)
    if is_lesser((room, 1), volume_of(whole)):
        raise NoRoom(name)
    return whole
