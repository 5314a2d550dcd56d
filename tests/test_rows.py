"""Rows: what is refused, their fields, and that nothing handed in is kept."""

import copy
import unittest

from helpers import is_tuples_through, refusal
from kettlerow.rows import Row
from rowsmade import GREATEST_KETTLES, GREATEST_MOULDS, KETTLES, MOULDS

PAN = ("pan", 100, 5, (1, 2))
CONE = ("cone", 50, (1, 4))
NO_NAMES = ["", "Pan", "panS", "pan1", "p n", " pan", "pan ", "pan\n", "abcdefghi", "a" * 200, "-", "{", "`", "pan/", "p_n", "0"]
NO_FRACS = [(2, 4), (0, 2), (1, 0), (1, -2), (-1, -2)]
NO_NUMBERS = ["5", "", (5, 1), (1, 2), "one"]


class Fields(unittest.TestCase):
    def assert_row(self, kettles, moulds):
        row = Row(kettles, moulds)
        self.assertEqual(row.kettles, tuple(kettles))
        self.assertEqual(row.moulds, tuple(moulds))
        self.assertIs(is_tuples_through(row.kettles), True)
        self.assertIs(is_tuples_through(row.moulds), True)

    def test_ordinary(self):
        self.assert_row(KETTLES, MOULDS)
        self.assert_row([PAN], [CONE])

    def test_lists_or_tuples(self):
        for kettles in [KETTLES, tuple(KETTLES)]:
            for moulds in [MOULDS, tuple(MOULDS)]:
                self.assert_row(kettles, moulds)

    def test_no_moulds(self):
        self.assert_row([PAN], [])
        self.assert_row([PAN], ())

    def test_edges_of_kettles(self):
        for kettle in [
            ("a", 1, 0, (1, 60)), ("z", 10 ** 6, 10 ** 4, (59, 60)), ("abcdefgh", 1, 0, (1, 2)), ("zzzzzzzz", 1, 1, (1, 59)),
            ("kettle", 1, 0, (31, 60)), ("mould", 1, 0, (58, 59)),
        ]:
            self.assert_row([kettle], [])

    def test_edges_of_moulds(self):
        for mould in [
            ("a", 1, (0, 1)), ("z", 10 ** 6, (11, 12)), ("abcdefgh", 1, (1, 12)), ("kettle", 2, (10, 11)), ("mould", 1, (1, 2)),
        ]:
            self.assert_row([PAN], [mould])

    def test_the_greatest(self):
        self.assertEqual((len(GREATEST_KETTLES), len(GREATEST_MOULDS)), (8, 40))
        self.assert_row(GREATEST_KETTLES, GREATEST_MOULDS)
        self.assert_row(GREATEST_KETTLES, [])
        self.assert_row([PAN], GREATEST_MOULDS)

    def test_the_order_stays(self):
        self.assert_row(KETTLES[::-1], MOULDS[::-1])
        self.assert_row([("b", 1, 0, (1, 2)), ("a", 1, 0, (1, 2))], [("d", 1, (0, 1)), ("c", 1, (0, 1))])

    def test_what_was_handed_in_changes_behind(self):
        kettles, moulds = list(KETTLES), list(MOULDS)
        row = Row(kettles, moulds)
        kettles.append(("more", 1, 1, (1, 2)))
        moulds[0] = ("other", 1, (0, 1))
        moulds.pop()
        self.assertEqual((row.kettles, row.moulds), (tuple(KETTLES), tuple(MOULDS)))

    def test_what_was_handed_in_is_not_changed(self):
        kettles, moulds = list(KETTLES), list(MOULDS)
        Row(kettles, moulds)
        self.assertEqual((kettles, moulds), (KETTLES, MOULDS))
        refused = [PAN, PAN]
        refusal(Row, refused, moulds)
        self.assertEqual((refused, moulds), ([PAN, PAN], MOULDS))

    def test_two_rows_by_turns(self):
        one, other = Row(KETTLES, MOULDS), Row([PAN], [CONE])
        for _ in range(3):
            self.assertEqual((one.kettles, one.moulds), (tuple(KETTLES), tuple(MOULDS)))
            self.assertEqual((other.kettles, other.moulds), ((PAN,), (CONE,)))

    def test_two_rows_of_the_same_lists(self):
        kettles, moulds = list(KETTLES), list(MOULDS)
        one = Row(kettles, moulds)
        kettles.reverse()
        moulds.clear()
        other = Row(kettles, moulds)
        self.assertEqual((one.kettles, one.moulds), (tuple(KETTLES), tuple(MOULDS)))
        self.assertEqual((other.kettles, other.moulds), (tuple(KETTLES[::-1]), ()))


class Refused(unittest.TestCase):
    def assert_refused(self, name, kettles, moulds):
        what = kettles if name == "BadKettles" else moulds
        for one, other in [(list(kettles), list(moulds)), (tuple(kettles), tuple(moulds))]:
            before = copy.deepcopy((one, other))
            told = refusal(Row, one, other)
            self.assertEqual(told, (name, tuple(what)))
            self.assertIs(type(told[1]), tuple)
            self.assertEqual((one, other), before)

    def assert_kettle_refused(self, kettle):
        with self.subTest(kettle=kettle):
            self.assert_refused("BadKettles", [kettle], [])
            self.assert_refused("BadKettles", KETTLES + [kettle], MOULDS)
            self.assert_refused("BadKettles", [kettle] + KETTLES, MOULDS)

    def assert_mould_refused(self, mould):
        with self.subTest(mould=mould):
            self.assert_refused("BadMoulds", [PAN], [mould])
            self.assert_refused("BadMoulds", KETTLES, MOULDS + [mould])
            self.assert_refused("BadMoulds", KETTLES, [mould] + MOULDS)

    def test_no_kettles(self):
        self.assert_refused("BadKettles", [], [])
        self.assert_refused("BadKettles", [], MOULDS)

    def test_too_many(self):
        self.assert_refused("BadKettles", GREATEST_KETTLES + [PAN], [])
        self.assert_refused("BadMoulds", [PAN], GREATEST_MOULDS + [CONE])
        self.assert_refused("BadKettles", GREATEST_KETTLES * 2, GREATEST_MOULDS * 2)

    def test_names(self):
        for name in NO_NAMES + [5, 0, (1, 2)]:
            self.assert_kettle_refused((name, 100, 5, (1, 2)))
            self.assert_mould_refused((name, 50, (1, 4)))

    def test_each_sign_in_a_name(self):
        for code in range(32, 127):
            sign = chr(code)
            if "a" <= sign <= "z":
                self.assertIsNone(refusal(Row, [("p" + sign, 100, 5, (1, 2))], [("c" + sign, 50, (1, 4))]))
            else:
                self.assert_kettle_refused(("p" + sign, 100, 5, (1, 2)))
                self.assert_mould_refused((sign + "c", 50, (1, 4)))

    def test_rooms(self):
        for room in [0, -1, 10 ** 6 + 1, 10 ** 40] + NO_NUMBERS:
            self.assert_kettle_refused(("pan", room, 5, (1, 2)))
            self.assert_mould_refused(("mean", room, (1, 4)))

    def test_fires(self):
        for fire in [-1, 10 ** 4 + 1, 10 ** 40] + NO_NUMBERS:
            self.assert_kettle_refused(("pan", 100, fire, (1, 2)))

    def test_marks(self):
        for mark in NO_FRACS + [
            (0, 1), (1, 1), (3, 2), (-1, 2), (1, 61), (60, 61), (61, 60), (1, 10 ** 39), (5, 1), 0, 1, "1/2", "", (1,), (), (1, 2, 3),
        ]:
            self.assert_kettle_refused(("pan", 100, 5, mark))

    def test_drips(self):
        for drip in NO_FRACS + [
            (1, 1), (3, 2), (-1, 2), (1, 13), (12, 13), (1, 60), (13, 12), (1, 10 ** 39), (5, 1), 0, 1, "1/2", "", (0,), (), (1, 2, 3),
        ]:
            self.assert_mould_refused(("mean", 50, drip))

    def test_lengths(self):
        for kettle in [(), ("pan",), ("pan", 100, 5), ("pan", 100, (1, 2)), ("pan", 100, 5, (1, 2), 1), ("pan", 100, 5, 1, 2)]:
            self.assert_kettle_refused(kettle)
        for mould in [(), ("mean",), ("mean", 50), ("mean", 50, (1, 4), 1), ("mean", 50, 5, (1, 4)), ("mean", 50, 1, 4)]:
            self.assert_mould_refused(mould)

    def test_names_that_are_there(self):
        self.assert_refused("BadKettles", [PAN, PAN], [])
        self.assert_refused("BadKettles", KETTLES + [("grande", 1, 1, (1, 2))], [])
        self.assert_refused("BadMoulds", [PAN], [CONE, CONE])
        self.assert_refused("BadMoulds", [PAN], MOULDS + [("tip", 200, (1, 2))])
        self.assert_refused("BadMoulds", [PAN], [("pan", 50, (1, 4))])
        self.assert_refused("BadMoulds", KETTLES, MOULDS + [("sirop", 50, (1, 4))])

    def test_kettles_at_fault_go_ahead_of_moulds_at_fault(self):
        self.assert_refused("BadKettles", [], [("", 0, 0)])
        self.assert_refused("BadKettles", [PAN, PAN], [CONE, CONE])
        self.assert_refused("BadKettles", [("pan", 0, 5, (1, 2))], [("pan", 50, (1, 4))])

    def test_the_same_is_refused_each_time(self):
        for _ in range(3):
            self.assert_refused("BadKettles", [PAN, PAN], [])
            self.assertIsNone(refusal(Row, [PAN], [CONE]))
            self.assert_refused("BadMoulds", [PAN], [CONE, PAN])


if __name__ == "__main__":
    unittest.main()
