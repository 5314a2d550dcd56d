"""Moulds: filled, drained, knocked out, what strikes they bear, and the vat."""

import unittest
from fractions import Fraction

from checks import Checked
from helpers import FORTY, is_tuples_through, juice, pair
from kettlerow.juices import NOTHING
from kettlerow.moulds import Moulds
from kettlerow.rows import Row
from rowsmade import KETTLES, MOULDS

NAMES = ["cone", "loaf", "bastard", "tip"]


def moulds_of_row(*fills):
    """The moulds of the usual row, filled as told."""
    moulds = Moulds(Row(KETTLES, MOULDS))
    for strike, pours in fills:
        moulds.fill(strike, pours)
    return moulds


class OfMoulds(Checked):
    def assert_juices(self, moulds, **juices):
        """In the named moulds is just so much, in the others nothing."""
        self.assert_holds(moulds.juice_in, NAMES, juices)


class AtFirst(OfMoulds):
    def test_all_is_empty(self):
        moulds = moulds_of_row()
        self.assert_juices(moulds)
        for name in NAMES:
            self.assertIs(moulds.is_cured(name), False)
            self.assert_same(moulds.bears(name), ())
        self.assert_same(moulds.vat(), NOTHING)
        self.assertEqual(moulds.loaves(), [])
        self.assertIs(type(moulds.loaves()), list)

    def test_names_in_the_rows_order(self):
        self.assertEqual(moulds_of_row().mould_names(), NAMES)
        self.assertEqual(Moulds(Row(KETTLES, MOULDS[::-1])).mould_names(), NAMES[::-1])
        self.assertIs(type(moulds_of_row().mould_names()), list)

    def test_a_row_without_moulds(self):
        moulds = Moulds(Row(KETTLES, []))
        self.assertEqual((moulds.mould_names(), moulds.loaves(), moulds.vat()), ([], [], NOTHING))

    def test_lists_told_are_the_askers_own(self):
        moulds = moulds_of_row((1, [("cone", juice(4, 4))]))
        moulds.drain("cone")
        moulds.knock("cone")
        moulds.mould_names().clear()
        moulds.loaves().clear()
        moulds.loaves()[0] = None
        self.assertEqual(moulds.mould_names(), NAMES)
        self.assertEqual(moulds.loaves(), [("cone", (3, 1), ((1, (1, 1)),))])
        self.assertIsNot(moulds.loaves(), moulds.loaves())
        self.assertIsNot(moulds.mould_names(), moulds.mould_names())


class Filled(OfMoulds):
    def test_one_mould(self):
        moulds = moulds_of_row()
        self.assertIsNone(moulds.fill(1, [("cone", juice(10, 20))]))
        self.assert_juices(moulds, cone=juice(10, 20))
        self.assert_same(moulds.bears("cone"), ((1, (1, 1)),))
        self.assertIs(moulds.is_cured("cone"), False)

    def test_several_moulds(self):
        moulds = moulds_of_row((3, [("loaf", juice(1, 2)), ("cone", juice(3, 0)), ("bastard", juice(Fraction(1, 3), 7))]))
        self.assert_juices(moulds, loaf=juice(1, 2), cone=juice(3, 0), bastard=juice(Fraction(1, 3), 7))
        for name in ["loaf", "cone", "bastard"]:
            self.assertEqual(moulds.bears(name), ((3, (1, 1)),))
        self.assertEqual(moulds.bears("tip"), ())

    def test_one_mould_twice(self):
        moulds = moulds_of_row((2, [("cone", juice(10, 5)), ("loaf", juice(1, 1)), ("cone", juice(3, 2))]))
        self.assert_juices(moulds, cone=juice(13, 7), loaf=juice(1, 1))
        self.assert_same(moulds.bears("cone"), ((2, (1, 1)),))

    def test_till_it_is_just_full(self):
        moulds = moulds_of_row((1, [("cone", juice(25, 25))]))
        self.assert_juices(moulds, cone=juice(25, 25))
        moulds = moulds_of_row((1, [("tip", juice(Fraction(1, 3), 0)), ("tip", juice(Fraction(1, 6), Fraction(1, 2)))]))
        self.assert_juices(moulds, tip=juice(Fraction(1, 2), Fraction(1, 2)))

    def test_pours_as_a_tuple_and_not_changed(self):
        moulds = moulds_of_row()
        moulds.fill(1, (("cone", juice(10, 20)), ("loaf", juice(1, 2))))
        pours = [("cone", juice(1, 1)), ("loaf", juice(1, 1))]
        moulds.fill(2, pours)
        self.assertEqual(pours, [("cone", juice(1, 1)), ("loaf", juice(1, 1))])
        pours.clear()
        self.assert_juices(moulds, cone=juice(11, 21), loaf=juice(2, 3))


class Borne(OfMoulds):
    def test_two_strikes(self):
        moulds = moulds_of_row((1, [("cone", juice(10, 5))]), (2, [("cone", juice(5, 7))]))
        self.assert_same(moulds.bears("cone"), ((1, (2, 3)), (2, (1, 3))))

    def test_rising_however_they_came(self):
        moulds = moulds_of_row((10, [("cone", juice(1, 0))]), (2, [("cone", juice(1, 0))]), (9, [("cone", juice(2, 0))]))
        self.assert_same(moulds.bears("cone"), ((2, (1, 4)), (9, (1, 2)), (10, (1, 4))))

    def test_a_strike_that_it_bears(self):
        moulds = moulds_of_row((1, [("cone", juice(1, 1))]), (2, [("cone", juice(1, 1))]), (1, [("cone", juice(2, 1))]))
        self.assert_same(moulds.bears("cone"), ((1, (3, 4)), (2, (1, 4))))
        moulds = moulds_of_row((7, [("cone", juice(1, 1)), ("cone", juice(2, 2))]), (7, [("cone", juice(4, 4))]))
        self.assert_same(moulds.bears("cone"), ((7, (1, 1)),))

    def test_by_sugar_alone(self):
        moulds = moulds_of_row((1, [("cone", juice(1, 40))]), (2, [("cone", juice(1, 0))]))
        self.assert_same(moulds.bears("cone"), ((1, (1, 2)), (2, (1, 2))))

    def test_shares_of_any_bottom(self):
        moulds = moulds_of_row((1, [("cone", juice(Fraction(1, 7), 0))]), (2, [("cone", juice(Fraction(1, FORTY), 0))]))
        self.assert_same(moulds.bears("cone"), ((1, pair(Fraction(FORTY, FORTY + 7))), (2, pair(Fraction(7, FORTY + 7)))))

    def test_drained_it_bears_the_same(self):
        moulds = moulds_of_row((1, [("tip", juice(Fraction(1, 3), 0))]), (5, [("tip", juice(Fraction(1, 6), 0))]))
        moulds.drain("tip")
        self.assert_same(moulds.bears("tip"), ((1, (2, 3)), (5, (1, 3))))

    def test_knocked_out_it_bears_nothing(self):
        moulds = moulds_of_row((1, [("cone", juice(1, 0))]))
        moulds.drain("cone")
        moulds.knock("cone")
        self.assert_same(moulds.bears("cone"), ())
        moulds.fill(2, [("cone", juice(1, 0))])
        self.assert_same(moulds.bears("cone"), ((2, (1, 1)),))

    def test_each_mould_bears_its_own(self):
        moulds = moulds_of_row(
            (1, [("cone", juice(1, 0)), ("loaf", juice(3, 0))]), (2, [("loaf", juice(1, 0)), ("bastard", juice(5, 5))]))
        self.assertEqual([moulds.bears(name) for name in NAMES], [
            ((1, (1, 1)),), ((1, (3, 4)), (2, (1, 4))), ((2, (1, 1)),), ()])


class Drained(OfMoulds):
    def test_drip_and_water_go_into_the_vat(self):
        moulds = moulds_of_row((1, [("cone", juice(20, 24)), ("loaf", juice(30, 7))]))
        self.assert_same(moulds.drain("cone"), juice(5, 24))
        self.assert_juices(moulds, cone=juice(15, 0), loaf=juice(30, 7))
        self.assertEqual([moulds.is_cured(name) for name in NAMES], [True, False, False, False])
        self.assert_same(moulds.vat(), juice(5, 24))
        self.assert_same(moulds.drain("loaf"), juice(10, 7))
        self.assert_same(moulds.vat(), juice(15, 31))
        self.assert_juices(moulds, cone=juice(15, 0), loaf=juice(20, 0))

    def test_no_drip(self):
        moulds = moulds_of_row((1, [("bastard", juice(20, 24))]))
        self.assert_same(moulds.drain("bastard"), juice(0, 24))
        self.assert_juices(moulds, bastard=juice(20, 0))
        self.assertIs(moulds.is_cured("bastard"), True)

    def test_nothing_drips(self):
        moulds = moulds_of_row((1, [("bastard", juice(20, 0))]))
        self.assert_same(moulds.drain("bastard"), NOTHING)
        self.assertIs(moulds.is_cured("bastard"), True)
        self.assert_juices(moulds, bastard=juice(20, 0))
        self.assert_same(moulds.vat(), NOTHING)

    def test_the_greatest_drip(self):
        moulds = moulds_of_row((1, [("tip", juice(Fraction(1, 2), Fraction(1, 2)))]))
        self.assert_same(moulds.drain("tip"), juice(Fraction(11, 24), Fraction(1, 2)))
        self.assert_juices(moulds, tip=juice(Fraction(1, 24), 0))


class Knocked(OfMoulds):
    def test_a_loaf_goes_out(self):
        moulds = moulds_of_row((1, [("cone", juice(10, 5))]), (4, [("cone", juice(6, 7))]))
        moulds.drain("cone")
        self.assert_same(moulds.knock("cone"), ((12, 1), ((1, (5, 8)), (4, (3, 8)))))
        self.assert_juices(moulds)
        self.assertIs(moulds.is_cured("cone"), False)
        self.assertEqual(moulds.loaves(), [("cone", (12, 1), ((1, (5, 8)), (4, (3, 8))))])
        self.assert_same(moulds.vat(), juice(4, 12))

    def test_loaves_as_they_went(self):
        moulds = moulds_of_row((1, [("loaf", juice(3, 1)), ("cone", juice(4, 1)), ("bastard", juice(5, 1))]))
        awaited = []
        for name, sugar in [("bastard", 5), ("cone", 3), ("loaf", 2)]:
            moulds.drain(name)
            moulds.knock(name)
            awaited.append((name, (sugar, 1), ((1, (1, 1)),)))
            self.assertEqual(moulds.loaves(), awaited)
        self.assertIs(is_tuples_through(tuple(moulds.loaves())), True)

    def test_one_mould_over_and_over(self):
        moulds = moulds_of_row()
        loaves, vat = [], 0
        for strike in range(1, 60):
            moulds.fill(strike, [("cone", juice(Fraction(strike, 3), Fraction(strike, 2)))])
            self.assertEqual(moulds.bears("cone"), ((strike, (1, 1)),))
            self.assertEqual(moulds.drain("cone"), juice(Fraction(strike, 12), Fraction(strike, 2)))
            vat += strike
            self.assertEqual(moulds.vat(), juice(Fraction(vat, 12), Fraction(vat, 2)))
            self.assertEqual(moulds.knock("cone"), (pair(Fraction(strike, 4)), ((strike, (1, 1)),)))
            loaves.append(("cone", pair(Fraction(strike, 4)), ((strike, (1, 1)),)))
            self.assert_juices(moulds)
            self.assertIs(moulds.is_cured("cone"), False)
        self.assertEqual(moulds.loaves(), loaves)


class DrawnOff(OfMoulds):
    def test_a_share_of_the_vat(self):
        moulds = moulds_of_row((1, [("cone", juice(20, 24))]))
        moulds.drain("cone")
        self.assert_same(moulds.draw_off((1, 4)), juice(Fraction(5, 4), 6))
        self.assert_same(moulds.vat(), juice(Fraction(15, 4), 18))
        self.assert_same(moulds.draw_off((11, 12)), juice(Fraction(55, 16), Fraction(33, 2)))
        self.assert_same(moulds.vat(), juice(Fraction(5, 16), Fraction(3, 2)))

    def test_all_of_it(self):
        moulds = moulds_of_row((1, [("cone", juice(20, 24))]))
        moulds.drain("cone")
        self.assert_same(moulds.draw_off((1, 1)), juice(5, 24))
        self.assert_same(moulds.vat(), NOTHING)
        self.assert_juices(moulds, cone=juice(15, 0))

    def test_the_vat_fills_again(self):
        moulds = moulds_of_row((1, [("cone", juice(20, 24)), ("bastard", juice(1, 1))]))
        moulds.drain("cone")
        moulds.draw_off((1, 1))
        moulds.drain("bastard")
        self.assert_same(moulds.vat(), juice(0, 1))


if __name__ == "__main__":
    unittest.main()
