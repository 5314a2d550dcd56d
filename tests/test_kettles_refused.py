"""Kettles: each refusal, which one comes first, and that what is refused changes nothing."""

import itertools
import unittest
from fractions import Fraction

from helpers import FORTY, juice, kettles_told, refusal
from kettlerow.kettles import Kettles
from kettlerow.rows import Row
from model import Model
from rowsmade import KETTLES, MOULDS
from spoilt import ODD

NO_KETTLES = ["pot", "", "cone", "Grande", "grand", "grandee", "vat", "grande ", "g" * 200]
NO_SHARES = [
    (0, 1), (-1, 2), (-1, 1), (3, 2), (13, 12), (2, 1), (1, 13), (12, 13), (7, 60), (1, FORTY), (FORTY - 1, FORTY), (FORTY, 1),
    (-FORTY, 1), (14, 13),
]


def filled_kettles():
    """Kettles that hold something in grande and flambeau, are just full in batterie, and empty in sirop."""
    kettles = Kettles(Row(KETTLES, MOULDS))
    kettles.pour("grande", juice(100, 800))
    kettles.pour("flambeau", juice(100, 200))
    kettles.pour("batterie", juice(60, 60))
    kettles.boil_on(1)
    kettles.pour("batterie", juice(0, 10))
    kettles.stop("flambeau")
    return kettles


class Checked(unittest.TestCase):
    def assert_refused(self, awaited, method, *arguments):
        """Refused so, each time, by kettles that are behind it as they were ahead of it."""
        kettles = filled_kettles()
        before = kettles_told(kettles)
        for _ in range(2):
            with self.subTest(method=method, arguments=arguments):
                told = refusal(getattr(kettles, method), *arguments)
                self.assertEqual(told, awaited)
                self.assertIs(type(told[1]), type(awaited[1]))
                self.assertEqual(kettles_told(kettles), before)


class EachRefusal(Checked):
    def test_no_kettle(self):
        for name in NO_KETTLES:
            self.assert_refused(("NoKettle", name), "pour", name, juice(1, 1))
            self.assert_refused(("NoKettle", name), "dip", name, (1, 2))
            self.assert_refused(("NoKettle", name), "ladle", name, "sirop", (1, 2))
            self.assert_refused(("NoKettle", name), "ladle", "grande", name, (1, 2))
            self.assert_refused(("NoKettle", name), "skim", name, (1, 2), (1, 2), "sirop")
            self.assert_refused(("NoKettle", name), "skim", "grande", (1, 2), (1, 2), name)
            for method in ["stop", "start", "juice_of", "in_work", "is_ready", "ready_at"]:
                self.assert_refused(("NoKettle", name), method, name)

    def test_ready_may_be_asked_of_anything(self):
        for thing in ODD:
            self.assert_refused(("NoKettle", thing), "is_ready", thing)

    def test_no_share(self):
        for share in NO_SHARES:
            self.assert_refused(("NoShare", share), "dip", "grande", share)
            self.assert_refused(("NoShare", share), "ladle", "grande", "sirop", share)
            self.assert_refused(("NoShare", share), "skim", "grande", share, (1, 2), "sirop")
            self.assert_refused(("NoShare", share), "skim", "grande", share, (0, 1), "grande")
            if share != (0, 1):
                self.assert_refused(("NoShare", share), "skim", "grande", (1, 2), share, "sirop")
                self.assert_refused(("NoShare", share), "skim", "grande", (1, 2), share, "grande")

    def test_a_given_share_may_be_nought(self):
        self.assertIsNone(refusal(filled_kettles().skim, "grande", (1, 2), (0, 1), "sirop"))

    def test_empty(self):
        self.assert_refused(("Empty", "sirop"), "dip", "sirop", (1, 2))
        self.assert_refused(("Empty", "sirop"), "dip", "sirop", (1, 1))
        self.assert_refused(("Empty", "sirop"), "ladle", "sirop", "grande", (1, 2))
        self.assert_refused(("Empty", "sirop"), "skim", "sirop", (1, 2), (1, 2), "grande")
        self.assert_refused(("Empty", "sirop"), "skim", "sirop", (1, 2), (0, 1), "sirop")

    def test_emptied(self):
        kettles = filled_kettles()
        kettles.dip("grande", (1, 1))
        self.assertEqual(refusal(kettles.dip, "grande", (1, 12)), ("Empty", "grande"))
        kettles.pour("sirop", juice(0, 20))
        kettles.boil_on(1)
        self.assertEqual(refusal(kettles.dip, "sirop", (1, 12)), ("Empty", "sirop"))

    def test_no_room_to_pour(self):
        little = Fraction(1, FORTY)
        self.assert_refused(("NoRoom", "batterie"), "pour", "batterie", juice(1, 0))
        self.assert_refused(("NoRoom", "batterie"), "pour", "batterie", juice(0, little))
        self.assert_refused(("NoRoom", "batterie"), "pour", "batterie", juice(little, 0))
        self.assert_refused(("NoRoom", "sirop"), "pour", "sirop", juice(150, 150 + little))
        self.assert_refused(("NoRoom", "sirop"), "pour", "sirop", juice(FORTY, FORTY))
        self.assertIsNone(refusal(filled_kettles().pour, "sirop", juice(150, 150)))

    def test_no_room_to_ladle(self):
        for share in [(1, 12), (1, 1)]:
            self.assert_refused(("NoRoom", "batterie"), "ladle", "grande", "batterie", share)
        self.assert_refused(("NoRoom", "sirop"), "ladle", "grande", "sirop", (1, 2))
        self.assertIsNone(refusal(filled_kettles().ladle, "grande", "sirop", (1, 3)))

    def test_no_room_to_skim(self):
        self.assert_refused(("NoRoom", "batterie"), "skim", "grande", (1, 12), (1, 12), "batterie")
        self.assert_refused(("NoRoom", "sirop"), "skim", "grande", (1, 1), (1, 2), "sirop")
        self.assertIsNone(refusal(filled_kettles().skim, "grande", (1, 1), (1, 3), "sirop"))

    def test_the_same(self):
        for name in ["grande", "flambeau", "sirop", "batterie"]:
            for share in [(1, 2), (1, 1)]:
                self.assert_refused(("Same", name), "ladle", name, name, share)

    def test_in_work_or_not(self):
        self.assert_refused(("Stopped", "flambeau"), "stop", "flambeau")
        for name in ["grande", "sirop", "batterie"]:
            self.assert_refused(("InWork", name), "start", name)

    def test_work_is_taken_and_given_by_turns(self):
        kettles = filled_kettles()
        for _ in range(3):
            self.assertEqual(refusal(kettles.start, "sirop"), ("InWork", "sirop"))
            self.assertIsNone(refusal(kettles.stop, "sirop"))
            self.assertEqual(refusal(kettles.stop, "sirop"), ("Stopped", "sirop"))
            self.assertIsNone(refusal(kettles.start, "sirop"))


class WhichGoesFirst(Checked):
    def test_pour(self):
        self.assert_refused(("NoKettle", "pot"), "pour", "pot", juice(10 ** 7, 0))

    def test_dip(self):
        self.assert_refused(("NoKettle", "pot"), "dip", "pot", (0, 1))
        self.assert_refused(("NoShare", (0, 1)), "dip", "sirop", (0, 1))
        self.assert_refused(("NoShare", (1, 13)), "dip", "sirop", (1, 13))

    def test_ladle(self):
        self.assert_refused(("NoKettle", "pot"), "ladle", "pot", "pan", (3, 2))
        self.assert_refused(("NoKettle", "pot"), "ladle", "pot", "pot", (1, 2))
        self.assert_refused(("NoKettle", "pan"), "ladle", "sirop", "pan", (3, 2))
        self.assert_refused(("Same", "sirop"), "ladle", "sirop", "sirop", (3, 2))
        self.assert_refused(("Same", "batterie"), "ladle", "batterie", "batterie", (1, 1))
        self.assert_refused(("NoShare", (3, 2)), "ladle", "sirop", "batterie", (3, 2))
        self.assert_refused(("NoShare", (3, 2)), "ladle", "grande", "batterie", (3, 2))
        self.assert_refused(("Empty", "sirop"), "ladle", "sirop", "batterie", (1, 2))

    def test_skim(self):
        self.assert_refused(("NoKettle", "pot"), "skim", "pot", (3, 2), (5, 2), "pan")
        self.assert_refused(("NoKettle", "pan"), "skim", "sirop", (3, 2), (5, 2), "pan")
        self.assert_refused(("NoShare", (3, 2)), "skim", "sirop", (3, 2), (5, 2), "batterie")
        self.assert_refused(("NoShare", (5, 2)), "skim", "sirop", (1, 2), (5, 2), "batterie")
        self.assert_refused(("NoShare", (5, 2)), "skim", "grande", (1, 2), (5, 2), "batterie")
        self.assert_refused(("Empty", "sirop"), "skim", "sirop", (1, 2), (1, 2), "batterie")

    def test_each_mixture_of_faults(self):
        names = ["pot", "pan", "grande", "flambeau", "sirop", "batterie"]
        shares = [(0, 1), (-1, 2), (1, 1), (1, 2), (1, 13), (5, 4)]
        cases = [("pour", name, one) for name in names for one in [juice(1, 1), juice(500, 500)]]
        cases += [("dip", name, share) for name in names for share in shares]
        cases += [("ladle",) + case for case in itertools.product(names, names, shares)]
        cases += [("skim",) + case for case in itertools.product(names, shares, shares, names)]
        cases += [(method, name) for method in ["stop", "start"] for name in names]
        told = {}
        for case in cases:
            kettles = filled_kettles()
            model = Model(KETTLES, MOULDS)
            for word, *arguments in [
                ("pour", "grande", juice(100, 800)), ("pour", "flambeau", juice(100, 200)), ("pour", "batterie", juice(60, 60)),
                ("boil_on", 1), ("pour", "batterie", juice(0, 10)), ("stop", "flambeau"),
            ]:
                self.assertEqual(model.attempt(word, *arguments)[0], "told")
            awaited = model.attempt(*case)
            with self.subTest(case=case):
                found = refusal(getattr(kettles, case[0]), *case[1:])
                self.assertEqual(found, None if awaited[0] == "told" else awaited)
                self.assertEqual(kettles_told(kettles), model.kettles_told())
            told[awaited[0]] = told.get(awaited[0], 0) + 1
        self.assertEqual(
            sorted(told), ["Empty", "InWork", "NoKettle", "NoRoom", "NoShare", "Same", "Stopped", "told"])


if __name__ == "__main__":
    unittest.main()
