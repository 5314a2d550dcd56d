"""Rows that several tests take: their kettles and moulds."""

KETTLES = [
    ("grande", 1000, 40, (1, 4)), ("flambeau", 600, 30, (1, 3)), ("sirop", 300, 20, (1, 2)), ("batterie", 120, 10, (3, 4)),
]
MOULDS = [("cone", 50, (1, 4)), ("loaf", 60, (1, 3)), ("bastard", 200, (0, 1)), ("tip", 1, (11, 12))]

GREATEST_KETTLES = [(letter * 8, 10 ** 6, 10 ** 4, (59, 60)) for letter in "abcdefgh"]
GREATEST_MOULDS = [(first + then * 7, 10 ** 6, (11, 12)) for first in "ijkl" for then in "qrstuvwxyz"]
