"""Things spoilt anywhere: each part of a thing in turn made another, left out, doubled, or put into another make."""

ODD = [None, True, False, "", "a", -1, 0, 1, 10 ** 50, (0, 1), (2, 4), (1, -1), [], (), [0], ["takes", 0, 0]]


def spoilt_anywhere(thing):
    """Every thing that comes of one by spoiling one part of it, the whole being a part, too."""
    yield from _instead(thing)
    if isinstance(thing, (list, tuple)):
        for at, part in enumerate(thing):
            for other in spoilt_anywhere(part):
                yield _made_like(thing, list(thing[:at]) + [other] + list(thing[at + 1:]))
            yield _made_like(thing, list(thing[:at]) + list(thing[at + 1:]))
            yield _made_like(thing, list(thing[:at]) + [part] + list(thing[at:]))
            if at:
                yield _made_like(thing, list(thing[:at - 1]) + [part, thing[at - 1]] + list(thing[at + 1:]))


def _made_like(thing, parts):
    return parts if isinstance(thing, list) else tuple(parts)


def _instead(thing):
    """Other things in a thing's stead."""
    for other in ODD:
        if other is not thing:
            yield other
    if isinstance(thing, list):
        yield tuple(thing)
        yield [thing]
    elif isinstance(thing, tuple):
        yield list(thing)
        yield (thing,)
    elif isinstance(thing, str):
        yield from [thing + "s", thing[1:], thing.upper(), [thing], list(thing)]
    elif isinstance(thing, int) and not isinstance(thing, bool):
        yield from [thing + 1, thing - 1, -thing, str(thing), (thing, 1), [thing]]
        if thing in (0, 1):
            yield bool(thing)


def is_plain(thing):
    """Whether a thing is a whole number, True and False being none."""
    return type(thing) is int
