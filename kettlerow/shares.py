"""Shares: fractions above 0, at most 1, with a small bottom."""

from kettlerow.errors import NoShare

MOST_BOTTOM = 12


def need_share(share):
    """Refuses a fraction that is no share with NoShare(share)."""
    top, bottom = share
    if not 0 < top <= bottom <= MOST_BOTTOM:
        raise NoShare(share)
