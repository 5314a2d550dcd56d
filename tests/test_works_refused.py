"""Works: each refusal of a deed, which one comes first, and that what is refused changes nothing."""

import copy
import itertools
import unittest
from fractions import Fraction

from checks import works_done
from helpers import FORTY, juice, refusal, works_told
from model import Model
from rowsmade import KETTLES, MOULDS

NONE = (0, 1)
NO_SHARES = [(0, 1), (-1, 2), (3, 2), (13, 12), (1, 13), (12, 13), (1, FORTY), (FORTY, 1)]
# Behind these sirop is ready, grande is out of work and weaker, flambeau is weaker, batterie is stronger and full;
# cone is cured, loaf is full, bastard holds something, tip is empty; in the vat is something.
DONE = [
    ("juice", "sirop", 150, 150), ("strike", "sirop", [("cone", (1, 10)), ("loaf", (1, 5)), ("bastard", (1, 10))]),
    ("drain", "cone"), ("juice", "grande", 100, 800), ("stop", "grande"), ("juice", "flambeau", 60, 500), 1,
    ("juice", "batterie", 100, 20),
]
# Behind these flambeau and sirop are empty, grande is ready.
EMPTIED = [("juice", "grande", 10, 40), ("juice", "sirop", 0, 20), 1]


def model_done(done):
    model = Model(KETTLES, MOULDS)
    for deed in done:
        call = ("boil_on", deed) if isinstance(deed, int) else ("do", deed)
        assert model.attempt(*call)[0] == "told", deed
    return model


class Checked(unittest.TestCase):
    def assert_refused(self, awaited, *deed, done=DONE):
        """Refused so, each time, by works that are behind it as they were ahead of it."""
        works = works_done(*done)
        before = works_told(works)
        handed = copy.deepcopy(deed)
        for _ in range(2):
            with self.subTest(deed=deed):
                told = refusal(works.do, deed)
                self.assertEqual(told, awaited)
                self.assertIs(type(told[1]), type(awaited[1]))
                self.assertEqual(works_told(works), before)
                self.assertEqual(deed, handed)


class OfKettles(Checked):
    def test_no_kettle(self):
        for name in ["pot", "cone", "sirops", "vat"]:
            self.assert_refused(("NoKettle", name), "juice", name, 1, 1)
            self.assert_refused(("NoKettle", name), "ladle", name, "sirop", (1, 2))
            self.assert_refused(("NoKettle", name), "ladle", "sirop", name, (1, 2))
            self.assert_refused(("NoKettle", name), "skim", name, (1, 2), NONE, "sirop")
            self.assert_refused(("NoKettle", name), "skim", "sirop", (1, 2), NONE, name)
            self.assert_refused(("NoKettle", name), "stop", name)
            self.assert_refused(("NoKettle", name), "start", name)
            self.assert_refused(("NoKettle", name), "strike", name, [("bastard", (1, 2))])
            self.assert_refused(("NoKettle", name), "drips", name, (1, 2))

    def test_as_kettles_refuse(self):
        self.assert_refused(("NoRoom", "batterie"), "juice", "batterie", 1, 0)
        self.assert_refused(("NoRoom", "grande"), "juice", "grande", 10 ** 6, 10 ** 6)
        self.assert_refused(("NoRoom", "batterie"), "ladle", "sirop", "batterie", (1, 12))
        self.assert_refused(("Same", "sirop"), "ladle", "sirop", "sirop", (1, 12))
        self.assert_refused(("NoRoom", "batterie"), "skim", "sirop", (1, 12), (1, 12), "batterie")
        self.assert_refused(("NoShare", (5, 4)), "skim", "sirop", (1, 12), (5, 4), "batterie")
        self.assert_refused(("Stopped", "grande"), "stop", "grande")
        self.assert_refused(("InWork", "sirop"), "start", "sirop")
        self.assert_refused(("Empty", "sirop"), "ladle", "sirop", "flambeau", (1, 2), done=EMPTIED)
        self.assert_refused(("Empty", "flambeau"), "skim", "flambeau", (1, 2), NONE, "grande", done=EMPTIED)
        for share in NO_SHARES:
            self.assert_refused(("NoShare", share), "ladle", "sirop", "flambeau", share)
            self.assert_refused(("NoShare", share), "skim", "sirop", share, NONE, "flambeau")


class OfStrikes(Checked):
    def test_no_mould(self):
        for name in ["hat", "sirop", "cones", "vat"]:
            self.assert_refused(("NoMould", name), "strike", "sirop", [(name, (1, 2))])
            self.assert_refused(("NoMould", name), "strike", "sirop", [("bastard", (1, 12)), (name, (1, 12))])

    def test_no_share(self):
        for share in NO_SHARES:
            self.assert_refused(("NoShare", share), "strike", "sirop", [("bastard", share)])
            self.assert_refused(("NoShare", share), "strike", "sirop", (("bastard", (1, 12)), ("bastard", share)))

    def test_shares_together_above_one(self):
        self.assert_refused(("NoShare", (13, 12)), "strike", "sirop", [("bastard", (1, 1)), ("tip", (1, 12))])
        self.assert_refused(
            ("NoShare", (793, 792)), "strike", "sirop", [("bastard", (3, 8)), ("bastard", (4, 9)), ("bastard", (2, 11))])
        self.assert_refused(("NoShare", (12, 1)), "strike", "sirop", [("bastard", (1, 1))] * 12)

    def test_shares_together_just_one(self):
        works = works_done(("juice", "sirop", 40, 40))
        self.assertIsNone(refusal(works.do, ("strike", "sirop", [("bastard", (1, 2)), ("bastard", (1, 3)), ("bastard", (1, 6))])))

    def test_empty(self):
        for kettle in ["sirop", "flambeau"]:
            self.assert_refused(("Empty", kettle), "strike", kettle, [("bastard", (1, 2))], done=EMPTIED)

    def test_not_ready(self):
        self.assert_refused(("NotReady", (38, 3)), "strike", "flambeau", [("bastard", (1, 12))])
        self.assert_refused(("NotReady", None), "strike", "grande", [("bastard", (1, 12))])
        water = [("juice", "sirop", 0, 200), 2]
        self.assert_refused(("NotReady", None), "strike", "sirop", [("bastard", (1, 12))], done=water)

    def test_too_strong(self):
        self.assert_refused(("TooStrong", (5, 6)), "strike", "batterie", [("bastard", (1, 12))])
        sugar = [("juice", "sirop", 100, 0), ("stop", "sirop"), 2]
        self.assert_refused(("TooStrong", (1, 1)), "strike", "sirop", [("bastard", (1, 12))], done=sugar)

    def test_as_moulds_refuse(self):
        self.assert_refused(("Cured", "cone"), "strike", "sirop", [("cone", (1, 12))])
        self.assert_refused(("NoRoom", "loaf"), "strike", "sirop", [("loaf", (1, 12))])
        self.assert_refused(("NoRoom", "tip"), "strike", "sirop", [("tip", (1, 12))])
        self.assert_refused(("NoRoom", "bastard"), "strike", "sirop", [("bastard", (1, 2)), ("bastard", (1, 2))])
        self.assert_refused(("Cured", "cone"), "strike", "sirop", [("bastard", (1, 12)), ("cone", (1, 12))])

    def test_which_goes_first(self):
        third, faulty = (1, 3), (5, 4)
        self.assert_refused(("NoKettle", "pot"), "strike", "pot", [("hat", faulty)])
        self.assert_refused(("NoMould", "hat"), "strike", "sirop", [("hat", faulty), ("cap", third)])
        self.assert_refused(("NoShare", faulty), "strike", "sirop", [("bastard", faulty), ("hat", third)])
        self.assert_refused(("NoMould", "hat"), "strike", "sirop", [("bastard", third), ("hat", third), ("tip", faulty)])
        self.assert_refused(("NoMould", "hat"), "strike", "sirop", [("bastard", (1, 1)), ("bastard", (1, 1)), ("hat", third)])
        self.assert_refused(("NoShare", (4, 3)), "strike", "sirop", [("cone", (1, 1)), ("tip", third)])
        self.assert_refused(("NoShare", (4, 3)), "strike", "flambeau", [("bastard", (1, 1)), ("tip", third)])
        self.assert_refused(("NoShare", (4, 3)), "strike", "sirop", [("cone", (1, 1)), ("tip", third)], done=EMPTIED)
        self.assert_refused(("NoShare", NONE), "strike", "sirop", [("cone", NONE)], done=EMPTIED)
        self.assert_refused(("Empty", "sirop"), "strike", "sirop", [("tip", (1, 1))], done=EMPTIED)
        self.assert_refused(("NotReady", (38, 3)), "strike", "flambeau", [("cone", third), ("tip", third)])
        self.assert_refused(("TooStrong", (5, 6)), "strike", "batterie", [("cone", third), ("tip", third)])
        self.assert_refused(("Cured", "cone"), "strike", "sirop", [("cone", third), ("tip", third)])
        self.assert_refused(("NoRoom", "tip"), "strike", "sirop", [("tip", third), ("cone", third)])


class OfMoulds(Checked):
    def test_no_mould(self):
        for name in ["hat", "sirop", "vat"]:
            self.assert_refused(("NoMould", name), "drain", name)
            self.assert_refused(("NoMould", name), "knock", name)

    def test_as_moulds_refuse(self):
        self.assert_refused(("Empty", "tip"), "drain", "tip")
        self.assert_refused(("Cured", "cone"), "drain", "cone")
        self.assert_refused(("Empty", "tip"), "knock", "tip")
        self.assert_refused(("NotCured", "loaf"), "knock", "loaf")

    def test_drips(self):
        self.assert_refused(("NoRoom", "batterie"), "drips", "batterie", (1, 12))
        self.assert_refused(("Empty", "vat"), "drips", "grande", (1, 12), done=EMPTIED)
        for share in NO_SHARES:
            self.assert_refused(("NoShare", share), "drips", "sirop", share)

    def test_drips_which_goes_first(self):
        self.assert_refused(("NoKettle", "pot"), "drips", "pot", NONE)
        self.assert_refused(("NoKettle", "pot"), "drips", "pot", NONE, done=EMPTIED)
        self.assert_refused(("NoShare", NONE), "drips", "batterie", NONE)
        self.assert_refused(("NoShare", (1, 13)), "drips", "grande", (1, 13), done=EMPTIED)
        full = [("juice", "batterie", 60, 60)]
        self.assert_refused(("Empty", "vat"), "drips", "batterie", (1, 2), done=full)


class EachMixtureOfFaults(unittest.TestCase):
    def assert_as_reckoned(self, done, deeds):
        """Each deed is refused as it is reckoned otherwise; the words that came are told."""
        words = {}
        for deed in deeds:
            works, model = works_done(*done), model_done(done)
            awaited = model.attempt("do", deed)
            with self.subTest(deed=deed):
                self.assertEqual(refusal(works.do, deed), None if awaited[0] == "told" else awaited)
                self.assertEqual(works_told(works), model.works_told())
            words[awaited[0]] = words.get(awaited[0], 0) + 1
        return sorted(words)

    def test_strikes(self):
        pours = [(mould, share) for mould in ["hat", "cone", "loaf", "bastard", "tip"] for share in [(3, 2), (1, 12), (3, 4)]]
        kettles = ["pot", "grande", "flambeau", "sirop", "batterie"]
        deeds = [("strike", kettle, list(some)) for kettle in kettles for some in itertools.product(pours, repeat=2)]
        deeds += [("strike", kettle, (pour,)) for kettle in kettles for pour in pours]
        self.assertEqual(self.assert_as_reckoned(DONE, deeds), [
            "Cured", "NoKettle", "NoMould", "NoRoom", "NoShare", "NotReady", "TooStrong", "told"])
        deeds = [("strike", kettle, (pour,)) for kettle in kettles for pour in pours]
        self.assertEqual(self.assert_as_reckoned(EMPTIED, deeds), [
            "Empty", "NoKettle", "NoMould", "NoRoom", "NoShare", "told"])

    def test_others(self):
        names, shares = ["pot", "pan", "grande", "sirop", "batterie"], [NONE, (1, 13), (1, 12), (1, 1)]
        deeds = [("juice", name, sugar, water) for name in names for sugar, water in [(1, 0), (0, 500), (10 ** 6, 10 ** 6)]]
        deeds += [("ladle",) + case for case in itertools.product(names, names, shares)]
        deeds += [("skim",) + case for case in itertools.product(names, shares, shares, names)]
        deeds += [("drips",) + case for case in itertools.product(names, shares)]
        deeds += [(word, name) for word in ["stop", "start"] for name in names]
        deeds += [(word, name) for word in ["drain", "knock"] for name in ["hat", "cone", "loaf", "bastard", "tip"]]
        for done in [DONE, EMPTIED]:
            self.assert_as_reckoned(done, deeds)


class TriedAgain(unittest.TestCase):
    def test_what_was_refused_may_be_done_later(self):
        works = works_done(*DONE)
        strike = ("strike", "sirop", [("cone", (1, 12))])
        self.assertEqual(refusal(works.do, strike), ("Cured", "cone"))
        works.do(("knock", "cone"))
        self.assertEqual(works.do(strike), ("strike", 2, (("cone", juice(Fraction(15, 2), Fraction(15, 2))),)))
        later = ("strike", "flambeau", [("bastard", (1, 12))])
        self.assertEqual(refusal(works.do, later), ("NotReady", (38, 3)))
        works.boil_on(12)
        self.assertEqual(works.do(later), ("strike", 3, (("bastard", juice(5, 10)),)))


if __name__ == "__main__":
    unittest.main()
