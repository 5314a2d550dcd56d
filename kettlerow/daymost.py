"""The most that is struck in a day, how it is done, and what it is bound by."""

from kettlerow.bounds import AHEAD_OF_ALL, bounds_at, end_of, hours_in, places_in, reached


def most_plan(day):
    """The plan by which each place has taken at least as many by each hour as by any plan that can be done."""
    taken = _most_taken(day)
    hours = range(hours_in(day))
    return [[taken[place, hour] - taken[place, hour - 1] for hour in hours] for place in range(places_in(day))]


def first_hour(day, many):
    """The least hour by whose end so many are struck by that plan; None where none is."""
    taken = _most_taken(day)
    last, _ = end_of(day)
    for hour in range(hours_in(day)):
        if taken[last, hour] >= many:
            return hour
    return None


def most_struck(day):
    """How many are struck in all by that plan, and the paper of bounds that shows that none strikes more."""
    taken = _most_taken(day)
    paper = []
    lead = end_of(day)
    while lead is not None:
        word, behind = _tight_bound(day, taken, lead)
        paper.append((word,) + lead)
        lead = behind
    return (taken[end_of(day)], paper)


def binding_places(day):
    """The rising places with which more would be struck, were their numbers and their room one more."""
    many = _most(day)
    return [place for place in range(places_in(day)) if _most(_widened(day, place)) > many]


def _most_taken(day):
    """What each place has taken by the end of each hour, and ahead of all, where each takes as much as it may."""
    # All other bounds lead to hours ahead; room leads to the place behind, so places go from the last one on.
    taken = {}
    for hour in range(AHEAD_OF_ALL, hours_in(day)):
        for place in reversed(range(places_in(day))):
            bounds = bounds_at(day, place, hour)
            taken[place, hour] = min([reached(taken, bound) for bound in bounds.values()])
    return taken


def _most(day):
    """How many are struck in all."""
    return _most_taken(day)[end_of(day)]


def _tight_bound(day, taken, lead):
    """The word of the bound that lets no more be taken there, and what it leads to."""
    place, hour = lead
    bounds = bounds_at(day, place, hour)
    tight = [word for word in bounds if reached(taken, bounds[word]) == taken[lead]]
    return (tight[0], bounds[tight[0]][0])


def _widened(day, place):
    """A day with one more for each of a place's numbers and for its room."""
    comes, kettles, strikes = day
    if place == len(kettles):
        return (comes, kettles, [number + 1 for number in strikes])
    wider = list(kettles)
    room, takes = kettles[place]
    wider[place] = (room + 1, [number + 1 for number in takes])
    return (comes, wider, strikes)
