"""Checks that several tests make of what is told, and the works of the usual row behind some deeds."""

import unittest

from helpers import is_tuples_through
from kettlerow.juices import NOTHING
from kettlerow.rows import Row
from kettlerow.works import Works
from rowsmade import KETTLES, MOULDS


class Checked(unittest.TestCase):
    def assert_same(self, told, awaited):
        """Equal, and made of tuples, texts and plain numbers alone."""
        self.assertEqual(told, awaited)
        self.assertIs(type(told), type(awaited))
        self.assertIs(is_tuples_through(told), True)

    def assert_holds(self, ask, names, juices):
        """Asked of each name, so much is told of those that have juices, nothing of the others."""
        told = {name: ask(name) for name in names}
        self.assertEqual(told, {name: juices.get(name, NOTHING) for name in names})
        self.assertLessEqual(set(juices), set(names))


def works_done(*deeds):
    """The works of the usual row, in which the deeds are done; a number boils on so many hours."""
    works = Works(Row(KETTLES, MOULDS))
    for deed in deeds:
        if isinstance(deed, int):
            works.boil_on(deed)
        else:
            works.do(deed)
    return works
