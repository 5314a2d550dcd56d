"""Deeds: what is one, and the things of every make that are none."""

import copy
import unittest

from deedsmodel import FORMS, any_deed, is_model_deed
from helpers import FORTY, Turns
from kettlerow.deeds import is_deed
from spoilt import spoilt_anywhere

HALF = (1, 2)
DEEDS = [
    ("juice", "pan", 10, 90), ("ladle", "pan", "pot", HALF), ("skim", "pan", HALF, (1, 3), "pot"), ("stop", "pan"), ("start", "pan"),
    ("strike", "pan", [("cone", HALF), ("loaf", (1, 3))]), ("strike", "pan", (("cone", HALF),)), ("drain", "cone"), ("knock", "cone"),
    ("drips", "pan", (1, 12)),
]
NO_NAMES = ["", "Pan", "pan1", "p n", " pan", "pan ", "pan\n", "abcdefghi", "{", "`", None, True, 0, 1, (), ("pan",), ["p"], HALF]
NO_FRACS = [
    (2, 4), (0, 2), (1, 0), (1, -2), (-1, -2), 1, 0, None, True, "1/2", [1, 2], (1,), (1, 2, 3), (True, 2), (1, True), ("1", 2), (), (HALF, HALF),
    (FORTY + 1, 1), (-FORTY - 1, 1), (1, FORTY + 1), (FORTY, FORTY + 1), (10 ** 60, 1), (None, 1),
]
FRACS = [(0, 1), (1, 1), (-1, 1), (-1, 2), (3, 2), (13, 12), (1, 13), (FORTY, 1), (-FORTY, 1), (1, FORTY), (FORTY - 1, FORTY), (-1, FORTY)]


class IsDeed(unittest.TestCase):
    def assert_deed(self, thing, awaited):
        with self.subTest(thing=thing):
            self.assertIs(is_deed(thing), awaited)

    def test_ordinary(self):
        for deed in DEEDS:
            self.assert_deed(deed, True)

    def test_a_list_is_none(self):
        for deed in DEEDS:
            self.assert_deed(list(deed), False)

    def test_names(self):
        for name in ["a", "z", "abcdefgh", "zzzzzzzz", "vat", "juice", "kettle"]:
            for deed in [
                ("juice", name, 1, 1), ("ladle", name, name, HALF), ("skim", name, HALF, HALF, name), ("stop", name), ("start", name),
                ("strike", name, [(name, HALF)]), ("drain", name), ("knock", name), ("drips", name, HALF),
            ]:
                self.assert_deed(deed, True)
        for name in NO_NAMES:
            for deed in [
                ("juice", name, 1, 1), ("ladle", name, "pot", HALF), ("ladle", "pan", name, HALF), ("skim", name, HALF, HALF, "pan"),
                ("skim", "pan", HALF, HALF, name), ("stop", name), ("start", name), ("strike", name, [("cone", HALF)]),
                ("strike", "pan", [(name, HALF)]), ("strike", "pan", [("cone", HALF), (name, HALF)]), ("drain", name), ("knock", name),
                ("drips", name, HALF),
            ]:
                self.assert_deed(deed, False)

    def test_sugar_and_water(self):
        for sugar, water in [(0, 1), (1, 0), (10 ** 6, 0), (0, 10 ** 6), (10 ** 6, 10 ** 6), (7, 9)]:
            self.assert_deed(("juice", "pan", sugar, water), True)
        self.assert_deed(("juice", "pan", 0, 0), False)
        for amount in [-1, 10 ** 6 + 1, 10 ** 50, True, False, None, "1", (1, 1), [1], HALF]:
            self.assert_deed(("juice", "pan", amount, 5), False)
            self.assert_deed(("juice", "pan", 5, amount), False)

    def test_fractions(self):
        for frac, awaited in [(frac, True) for frac in FRACS] + [(frac, False) for frac in NO_FRACS]:
            for deed in [
                ("ladle", "pan", "pot", frac), ("skim", "pan", frac, HALF, "pot"), ("skim", "pan", HALF, frac, "pot"),
                ("strike", "pan", [("cone", frac)]), ("strike", "pan", (("cone", HALF), ("cone", frac))), ("drips", "pan", frac),
            ]:
                self.assert_deed(deed, awaited)

    def test_pours(self):
        for many in range(0, 15):
            self.assert_deed(("strike", "pan", [("cone", HALF)] * many), 1 <= many <= 12)
            self.assert_deed(("strike", "pan", (("cone", HALF),) * many), 1 <= many <= 12)
        for pours in [
            None, True, 1, "cone", ("cone", HALF), ["cone", HALF], [["cone", HALF]], [("cone",)], [("cone", HALF, HALF)], [()], [None], [HALF],
            [("cone", HALF), None], [(HALF, "cone")], [[("cone", HALF)]], "ab", ["ab"],
        ]:
            self.assert_deed(("strike", "pan", pours), False)

    def test_words(self):
        for word in ["", "Juice", "boil", "untell", "pour", "juices", "at", None, 1, True, (), ("stop",), ["stop"], [], [[]]]:
            for deed in DEEDS:
                self.assert_deed((word,) + deed[1:], False)

    def test_parts(self):
        for deed in DEEDS:
            self.assert_deed(deed[:-1], False)
            self.assert_deed(deed + ("pan",), False)
            self.assert_deed(deed + (HALF,), False)
            self.assert_deed(deed + (None,), False)
            self.assert_deed((deed,), False)
        for word in FORMS:
            self.assert_deed((word,), False)

    def test_odd_things(self):
        for thing in [None, True, False, 0, 1, -5, "", "stop pan", (), [], ((),), [()], ("",), (None,), ((("stop", "pan"),),), [[[[[[]]]]]], {}]:
            self.assert_deed(thing, False)

    def test_spoilt_anywhere(self):
        seen = {True: 0, False: 0}
        turns = Turns(70)
        for deed in DEEDS + [any_deed(turns) for _ in range(20)]:
            for thing in spoilt_anywhere(deed):
                awaited = is_model_deed(thing)
                self.assert_deed(thing, awaited)
                seen[awaited] += 1
        self.assertGreater(seen[True], 80)
        self.assertGreater(seen[False], 1000)

    def test_by_turns(self):
        turns = Turns(71)
        for _ in range(500):
            deed = any_deed(turns)
            kept = copy.deepcopy(deed)
            self.assertIs(is_model_deed(deed), True)
            self.assert_deed(deed, True)
            self.assertEqual(deed, kept)


if __name__ == "__main__":
    unittest.main()
