"""Moulds: each refusal, which one comes first, and that what is refused changes nothing."""

import itertools
import unittest
from fractions import Fraction

from helpers import FORTY, juice, moulds_told, refusal
from kettlerow.moulds import Moulds
from kettlerow.rows import Row
from model import Model
from rowsmade import KETTLES, MOULDS
from spoilt import ODD

NO_MOULDS = ["pot", "", "grande", "Cone", "con", "conee", "vat", "cone ", "c" * 200]
NO_SHARES = [(0, 1), (-1, 2), (-1, 1), (3, 2), (13, 12), (2, 1), (1, 13), (12, 13), (7, 60), (1, FORTY), (FORTY, 1)]
DONE = [
    ("fill", 1, [("cone", juice(20, 20)), ("loaf", juice(10, 20))]), ("fill", 2, [("tip", juice(Fraction(1, 2), Fraction(1, 2)))]),
    ("drain", "cone"), ("draw_off", (1, 2)),
]


def filled_moulds(done=DONE):
    """Moulds of which cone is cured, loaf holds something, tip is just full, bastard is empty."""
    moulds = Moulds(Row(KETTLES, MOULDS))
    for method, *arguments in done:
        getattr(moulds, method)(*arguments)
    return moulds


class Checked(unittest.TestCase):
    def assert_refused(self, awaited, method, *arguments):
        """Refused so, each time, by moulds that are behind it as they were ahead of it."""
        moulds = filled_moulds()
        before = moulds_told(moulds)
        for _ in range(2):
            with self.subTest(method=method, arguments=arguments):
                told = refusal(getattr(moulds, method), *arguments)
                self.assertEqual(told, awaited)
                self.assertIs(type(told[1]), type(awaited[1]))
                self.assertEqual(moulds_told(moulds), before)


class EachRefusal(Checked):
    def test_no_mould(self):
        for name in NO_MOULDS:
            self.assert_refused(("NoMould", name), "fill", 3, [(name, juice(1, 1))])
            for method in ["drain", "knock", "juice_in", "is_cured", "bears"]:
                self.assert_refused(("NoMould", name), method, name)

    def test_cured_may_be_asked_of_anything(self):
        for thing in ODD:
            self.assert_refused(("NoMould", thing), "is_cured", thing)

    def test_cured(self):
        self.assert_refused(("Cured", "cone"), "fill", 3, [("cone", juice(1, 0))])
        self.assert_refused(("Cured", "cone"), "drain", "cone")

    def test_cured_till_it_is_knocked_out(self):
        moulds = filled_moulds()
        moulds.knock("cone")
        self.assertEqual(refusal(moulds.drain, "cone"), ("Empty", "cone"))
        self.assertIsNone(refusal(moulds.fill, 3, [("cone", juice(1, 0))]))
        self.assertIsNone(refusal(moulds.drain, "cone"))
        self.assertEqual(refusal(moulds.drain, "cone"), ("Cured", "cone"))

    def test_no_room(self):
        little = Fraction(1, FORTY)
        self.assert_refused(("NoRoom", "tip"), "fill", 3, [("tip", juice(little, 0))])
        self.assert_refused(("NoRoom", "loaf"), "fill", 3, [("loaf", juice(30 + little, 0))])
        self.assert_refused(("NoRoom", "loaf"), "fill", 3, [("loaf", juice(1, 29 + little))])
        self.assert_refused(("NoRoom", "loaf"), "fill", 3, [("loaf", juice(10, 10)), ("loaf", juice(10, little))])
        self.assertIsNone(refusal(filled_moulds().fill, 3, [("loaf", juice(10, 10)), ("loaf", juice(10, 0))]))

    def test_empty(self):
        self.assert_refused(("Empty", "bastard"), "drain", "bastard")
        self.assert_refused(("Empty", "bastard"), "knock", "bastard")

    def test_not_cured(self):
        self.assert_refused(("NotCured", "loaf"), "knock", "loaf")
        self.assert_refused(("NotCured", "tip"), "knock", "tip")

    def test_draw_off(self):
        for share in NO_SHARES:
            self.assert_refused(("NoShare", share), "draw_off", share)
        moulds = filled_moulds()
        moulds.draw_off((1, 1))
        for share in [(1, 1), (1, 12)]:
            self.assertEqual(refusal(moulds.draw_off, share), ("Empty", "vat"))
        self.assertEqual(refusal(Moulds(Row(KETTLES, [])).draw_off, (1, 2)), ("Empty", "vat"))

    def test_a_mould_called_vat(self):
        moulds = Moulds(Row(KETTLES, [("vat", 10, (1, 2))]))
        self.assertEqual(refusal(moulds.drain, "vat"), ("Empty", "vat"))
        self.assertEqual(refusal(moulds.draw_off, (1, 2)), ("Empty", "vat"))
        moulds.fill(1, [("vat", juice(2, 2))])
        self.assertEqual((moulds.drain("vat"), moulds.vat()), (juice(1, 2), juice(1, 2)))


class WhichGoesFirst(Checked):
    def test_fill_pour_by_pour(self):
        fine, cured, full, none = [(name, juice(1, 1)) for name in ["loaf", "cone", "tip", "pot"]]
        for pours, awaited in [
            ([fine, cured, full, none], ("Cured", "cone")), ([fine, full, cured, none], ("NoRoom", "tip")),
            ([none, cured, full], ("NoMould", "pot")), ([full, none, cured], ("NoRoom", "tip")),
            ([fine, fine, fine, none], ("NoMould", "pot")), ([cured], ("Cured", "cone")), ([fine, none], ("NoMould", "pot")),
        ]:
            self.assert_refused(awaited, "fill", 3, pours)
            self.assert_refused(awaited, "fill", 3, tuple(pours))

    def test_cured_goes_ahead_of_no_room(self):
        self.assert_refused(("Cured", "cone"), "fill", 3, [("cone", juice(1000, 1000))])

    def test_what_a_pour_ahead_took_counts(self):
        self.assert_refused(
            ("NoRoom", "loaf"), "fill", 3, [("loaf", juice(20, 0)), ("bastard", juice(1, 1)), ("loaf", juice(11, 0)), ("pot", juice(1, 0))])

    def test_the_vat(self):
        moulds = Moulds(Row(KETTLES, MOULDS))
        self.assertEqual(refusal(moulds.draw_off, (1, 13)), ("NoShare", (1, 13)))
        self.assertEqual(refusal(moulds.draw_off, (0, 1)), ("NoShare", (0, 1)))
        self.assertEqual(refusal(moulds.draw_off, (1, 1)), ("Empty", "vat"))

    def test_each_mixture_of_faults(self):
        names = ["pot", "cone", "loaf", "bastard", "tip"]
        juices = [juice(1, 1), juice(25, 20), juice(Fraction(1, 9), 0)]
        pours = [(name, one) for name in names for one in juices]
        cases = [("fill", 2, list(some)) for many in (1, 2) for some in itertools.product(pours, repeat=many)]
        cases += [("fill", 5, list(some)) for some in itertools.product(pours[1::3], repeat=3)]
        cases += [(method, name) for method in ["drain", "knock"] for name in names]
        found = {}
        for case in cases:
            moulds, model = filled_moulds(), Model(KETTLES, MOULDS)
            for done in DONE:
                self.assertEqual(model.attempt(*done)[0], "told")
            awaited = model.attempt(*case)
            with self.subTest(case=case):
                told = refusal(getattr(moulds, case[0]), *case[1:])
                self.assertEqual(told, None if awaited[0] == "told" else awaited)
                self.assertEqual(moulds_told(moulds), model.moulds_told())
            found[awaited[0]] = found.get(awaited[0], 0) + 1
        self.assertEqual(sorted(found), ["Cured", "Empty", "NoMould", "NoRoom", "NotCured", "told"])


if __name__ == "__main__":
    unittest.main()
