"""Whole numbers, and how they are written in plain figures."""

CHUNK_FIGURES = 64
CHUNK = 10 ** 64


def is_number(thing):
    """Whether a thing is a whole number; True and False are none."""
    return isinstance(thing, int) and not isinstance(thing, bool)


def is_number_within(thing, least, most):
    """Whether a thing is a whole number from the least to the most."""
    return is_number(thing) and least <= thing <= most


def figures_of(number):
    """The plain figures of a number from 0, however large it is."""
    # Python's own str refuses numbers of more than some thousand figures.
    chunks = []
    while number >= CHUNK:
        number, chunk = divmod(number, CHUNK)
        chunks.append(str(chunk).zfill(CHUNK_FIGURES))
    chunks.append(str(number))
    return "".join(reversed(chunks))


def are_figures(text, most):
    """Whether a text is one to so many figures from 0 to 9, and nothing else."""
    return len(text) <= most and text.isascii() and text.isdigit()


def number_in(text, most):
    """The number that a text of one to so many plain figures tells; None where it isn't so written."""
    if not are_figures(text, most) or figures_of(int(text)) != text:
        return None
    return int(text)
