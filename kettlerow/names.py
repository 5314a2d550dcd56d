"""NAMEs: texts of one to eight letters a to z."""

MOST_LETTERS = 8


def is_name(thing):
    """Whether a thing is a NAME."""
    if not isinstance(thing, str) or not 1 <= len(thing) <= MOST_LETTERS:
        return False
    return all("a" <= letter <= "z" for letter in thing)


def are_unlike(names):
    """Whether no two of some names are alike."""
    return len(set(names)) == len(names)
