"""The first row of a text that can't stand there, found without the program."""

import re
from math import gcd

NUMBER = "(0|[1-9][0-9]*)"


def number_fits(word, least, most):
    """Whether a word is a number in plain figures from the least to the most."""
    return re.fullmatch(NUMBER, word) is not None and len(word) < 9 and least <= int(word) <= most


def frac_fits(word, least_top, most_bottom):
    """Whether a word is a fraction from so great a top on, below 1, its bottom at most so much."""
    if word == "0":
        return least_top == 0
    match = re.fullmatch("([1-9][0-9]?)/([1-9][0-9]?)", word)
    if match is None:
        return False
    top, bottom = int(match.group(1)), int(match.group(2))
    return top < bottom <= most_bottom and gcd(top, bottom) == 1


def first_fault(text):
    """The number that a text is refused with, None where it is a row's; found without the program."""
    lines = text.split("\n")
    names, kettles, moulds = [], 0, 0
    for at, line in enumerate(lines):
        words = line.split(" ")
        kind, name = words[0], words[1] if len(words) > 1 else ""
        fits = re.fullmatch("[a-z]{1,8}", name) is not None and name not in names
        if kind == "kettle" and len(words) == 5:
            fits = fits and number_fits(words[2], 1, 10 ** 6) and number_fits(words[3], 0, 10 ** 4)
            fits = fits and frac_fits(words[4], 1, 60) and not moulds and kettles < 8
            kettles += 1
        elif kind == "mould" and len(words) == 4:
            fits = fits and number_fits(words[2], 1, 10 ** 6) and frac_fits(words[3], 0, 12) and moulds < 40
            moulds += 1
        else:
            fits = False
        if not fits:
            return at
        names.append(name)
    return None if kettles else len(lines)
