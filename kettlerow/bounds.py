"""The bounds of what each place of a day has taken by the end of each hour."""

AHEAD_OF_ALL = -1


def places_in(day):
    """How many places a day has: its kettles, and one for the strikes."""
    return len(day[1]) + 1


def hours_in(day):
    """How many hours a day has."""
    return len(day[0])


def end_of(day):
    """The last place and the last hour of a day."""
    return (places_in(day) - 1, hours_in(day) - 1)


def bounds_at(day, place, hour):
    """The bounds there, by their words: what each one leads to, None where nothing is behind it, and how much more."""
    if hour == AHEAD_OF_ALL:
        return {"begin": (None, 0)}
    comes, kettles, strikes = day
    if place == 0:
        bounds = {"comes": (None, sum(comes[:hour + 1]))}
    else:
        bounds = {"ahead": ((place - 1, hour - 1), 0)}
    if place == len(kettles):
        bounds["takes"] = ((place, hour - 1), strikes[hour])
    else:
        room, takes = kettles[place]
        bounds["takes"] = ((place, hour - 1), takes[hour])
        bounds["room"] = ((place + 1, hour), room)
    return bounds


def reached(taken, bound):
    """How much a bound lets a place have taken, where so much is taken at what it leads to."""
    lead, more = bound
    if lead is None:
        return more
    return taken[lead] + more
