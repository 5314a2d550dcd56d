"""Kettles: poured, dipped, ladled, skimmed, stopped and started, boiled, and when they are ready."""

import unittest
from fractions import Fraction

from checks import Checked
from helpers import FORTY, juice, kettles_told, pair
from kettlerow.juices import NOTHING
from kettlerow.kettles import Kettles
from kettlerow.rows import Row
from rowsmade import KETTLES, MOULDS

NAMES = ["grande", "flambeau", "sirop", "batterie"]


def kettles_of_row(**juices):
    """The kettles of the usual row, poured into as named."""
    kettles = Kettles(Row(KETTLES, MOULDS))
    for name, one in juices.items():
        kettles.pour(name, one)
    return kettles


class OfKettles(Checked):
    def assert_juices(self, kettles, **juices):
        """In the named kettles is just so much, in the others nothing."""
        self.assert_holds(kettles.juice_of, NAMES, juices)


class AtFirst(OfKettles):
    def test_all_is_empty_and_in_work(self):
        kettles = kettles_of_row()
        self.assert_juices(kettles)
        for name in NAMES:
            self.assertIs(kettles.in_work(name), True)
            self.assertIs(kettles.is_ready(name), False)
            self.assertIsNone(kettles.ready_at(name))
        self.assert_same(kettles.hour(), 0)
        self.assert_same(kettles.boiled_off(), (0, 1))

    def test_names_in_the_rows_order(self):
        self.assertEqual(kettles_of_row().kettle_names(), NAMES)
        self.assertEqual(Kettles(Row(KETTLES[::-1], [])).kettle_names(), NAMES[::-1])
        self.assertEqual(Kettles(Row([("z", 1, 1, (1, 2)), ("a", 1, 1, (1, 2))], [])).kettle_names(), ["z", "a"])
        self.assertIs(type(kettles_of_row().kettle_names()), list)

    def test_names_told_are_the_askers_own(self):
        kettles = kettles_of_row()
        kettles.kettle_names().clear()
        kettles.kettle_names()[0] = "other"
        self.assertEqual(kettles.kettle_names(), NAMES)
        self.assertIsNot(kettles.kettle_names(), kettles.kettle_names())


class Poured(OfKettles):
    def test_pour(self):
        kettles = kettles_of_row()
        self.assertIsNone(kettles.pour("grande", juice(100, 800)))
        self.assert_juices(kettles, grande=juice(100, 800))
        kettles.pour("sirop", juice(Fraction(1, 3), 0))
        kettles.pour("grande", juice(Fraction(1, 2), Fraction(1, 7)))
        self.assert_juices(kettles, grande=juice(Fraction(201, 2), Fraction(5601, 7)), sirop=juice(Fraction(1, 3), 0))

    def test_pour_till_it_is_just_full(self):
        kettles = kettles_of_row(batterie=juice(60, 60))
        self.assert_juices(kettles, batterie=juice(60, 60))
        kettles = kettles_of_row(batterie=juice(0, Fraction(239, 2)))
        kettles.pour("batterie", juice(Fraction(1, 3), Fraction(1, 6)))
        self.assert_juices(kettles, batterie=juice(Fraction(1, 3), Fraction(359, 3)))

    def test_pour_very_little(self):
        kettles = kettles_of_row(grande=juice(Fraction(1, FORTY), 0))
        kettles.pour("grande", juice(0, Fraction(1, FORTY - 1)))
        self.assert_juices(kettles, grande=juice(Fraction(1, FORTY), Fraction(1, FORTY - 1)))

    def test_a_kettle_of_the_least_room(self):
        kettles = Kettles(Row([("pan", 1, 0, (1, 2))], []))
        kettles.pour("pan", juice(Fraction(1, 3), Fraction(2, 3)))
        self.assertEqual(kettles.juice_of("pan"), juice(Fraction(1, 3), Fraction(2, 3)))

    def test_dip(self):
        kettles = kettles_of_row(grande=juice(100, 800), sirop=juice(1, 1))
        self.assert_same(kettles.dip("grande", (1, 4)), juice(25, 200))
        self.assert_juices(kettles, grande=juice(75, 600), sirop=juice(1, 1))
        self.assert_same(kettles.dip("grande", (11, 12)), juice(Fraction(275, 4), 550))
        self.assert_juices(kettles, grande=juice(Fraction(25, 4), 50), sirop=juice(1, 1))

    def test_dip_all(self):
        kettles = kettles_of_row(grande=juice(100, 800))
        self.assert_same(kettles.dip("grande", (1, 1)), juice(100, 800))
        self.assert_juices(kettles)
        kettles.pour("grande", juice(0, 1000))
        self.assert_juices(kettles, grande=juice(0, 1000))

    def test_dip_each_share(self):
        for bottom in range(1, 13):
            for top in range(1, bottom + 1):
                if pair(Fraction(top, bottom)) == (top, bottom):
                    kettles = kettles_of_row(sirop=juice(5, 7))
                    part = Fraction(top, bottom)
                    self.assert_same(kettles.dip("sirop", (top, bottom)), juice(5 * part, 7 * part))
                    self.assert_juices(kettles, sirop=juice(5 - 5 * part, 7 - 7 * part))


class Ladled(OfKettles):
    def test_ladle(self):
        kettles = kettles_of_row(grande=juice(100, 800))
        self.assert_same(kettles.ladle("grande", "flambeau", (1, 2)), juice(50, 400))
        self.assert_juices(kettles, grande=juice(50, 400), flambeau=juice(50, 400))
        self.assert_same(kettles.ladle("flambeau", "sirop", (1, 3)), juice(Fraction(50, 3), Fraction(400, 3)))
        self.assert_juices(
            kettles, grande=juice(50, 400), flambeau=juice(Fraction(100, 3), Fraction(800, 3)),
            sirop=juice(Fraction(50, 3), Fraction(400, 3)))

    def test_ladle_all(self):
        kettles = kettles_of_row(grande=juice(30, 90), sirop=juice(1, 2))
        self.assert_same(kettles.ladle("grande", "sirop", (1, 1)), juice(30, 90))
        self.assert_juices(kettles, sirop=juice(31, 92))

    def test_ladle_up_the_row_too(self):
        kettles = kettles_of_row(batterie=juice(60, 60))
        self.assert_same(kettles.ladle("batterie", "grande", (1, 12)), juice(5, 5))
        self.assert_juices(kettles, batterie=juice(55, 55), grande=juice(5, 5))

    def test_ladle_till_the_other_is_just_full(self):
        kettles = kettles_of_row(grande=juice(100, 140), batterie=juice(30, 10))
        self.assert_same(kettles.ladle("grande", "batterie", (1, 3)), juice(Fraction(100, 3), Fraction(140, 3)))
        self.assert_juices(
            kettles, grande=juice(Fraction(200, 3), Fraction(280, 3)), batterie=juice(Fraction(190, 3), Fraction(170, 3)))


class Skimmed(OfKettles):
    def test_skim_and_give_nothing(self):
        kettles = kettles_of_row(grande=juice(100, 800))
        self.assert_same(kettles.skim("grande", (1, 10), (0, 1), "sirop"), (NOTHING, juice(10, 80)))
        self.assert_juices(kettles, grande=juice(90, 720))

    def test_skim_and_give_to_another(self):
        kettles = kettles_of_row(grande=juice(100, 800), sirop=juice(1, 1))
        self.assert_same(kettles.skim("grande", (1, 10), (1, 4), "sirop"), (juice(Fraction(5, 2), 20), juice(Fraction(15, 2), 60)))
        self.assert_juices(kettles, grande=juice(90, 720), sirop=juice(Fraction(7, 2), 21))

    def test_skim_and_give_all(self):
        kettles = kettles_of_row(grande=juice(100, 800))
        self.assert_same(kettles.skim("grande", (1, 10), (1, 1), "sirop"), (juice(10, 80), NOTHING))
        self.assert_juices(kettles, grande=juice(90, 720), sirop=juice(10, 80))

    def test_skim_and_give_to_the_same(self):
        kettles = kettles_of_row(grande=juice(100, 800))
        self.assert_same(kettles.skim("grande", (1, 10), (1, 4), "grande"), (juice(Fraction(5, 2), 20), juice(Fraction(15, 2), 60)))
        self.assert_juices(kettles, grande=juice(Fraction(185, 2), 740))
        self.assert_same(kettles.skim("grande", (1, 2), (1, 1), "grande"), (juice(Fraction(185, 4), 370), NOTHING))
        self.assert_juices(kettles, grande=juice(Fraction(185, 2), 740))
        self.assert_same(kettles.skim("grande", (1, 1), (0, 1), "grande"), (NOTHING, juice(Fraction(185, 2), 740)))
        self.assert_juices(kettles)

    def test_skim_a_full_kettle_into_itself(self):
        kettles = kettles_of_row(batterie=juice(60, 60))
        self.assert_same(kettles.skim("batterie", (1, 1), (1, 1), "batterie"), (juice(60, 60), NOTHING))
        self.assert_juices(kettles, batterie=juice(60, 60))
        self.assert_same(kettles.skim("batterie", (1, 1), (1, 2), "batterie"), (juice(30, 30), juice(30, 30)))
        self.assert_juices(kettles, batterie=juice(30, 30))

    def test_skim_till_the_other_is_just_full(self):
        kettles = kettles_of_row(grande=juice(100, 140), batterie=juice(30, 50))
        self.assert_same(kettles.skim("grande", (1, 3), (1, 2), "batterie"), (
            juice(Fraction(50, 3), Fraction(70, 3)), juice(Fraction(50, 3), Fraction(70, 3))))
        self.assert_juices(
            kettles, grande=juice(Fraction(200, 3), Fraction(280, 3)), batterie=juice(Fraction(140, 3), Fraction(220, 3)))

    def test_skim_nothing_into_a_full_one(self):
        kettles = kettles_of_row(grande=juice(100, 140), batterie=juice(30, 90))
        self.assert_same(kettles.skim("grande", (1, 2), (0, 1), "batterie"), (NOTHING, juice(50, 70)))
        self.assert_juices(kettles, grande=juice(50, 70), batterie=juice(30, 90))

    def test_what_is_poured_is_lost_in_no_way(self):
        for share in [(1, 12), (5, 7), (1, 1)]:
            for given in [(0, 1), (1, 11), (3, 4), (1, 1)]:
                kettles = kettles_of_row(grande=juice(7, 11))
                poured, lost = kettles.skim("grande", share, given, "sirop")
                part, back = Fraction(*share), Fraction(*given)
                self.assertEqual(poured, juice(7 * part * back, 11 * part * back))
                self.assertEqual(lost, juice(7 * part * (1 - back), 11 * part * (1 - back)))
                self.assert_juices(kettles, grande=juice(7 - 7 * part, 11 - 11 * part), sirop=poured)


class StoppedAndStarted(OfKettles):
    def test_out_of_work_and_back(self):
        kettles = kettles_of_row(grande=juice(100, 800))
        self.assertIsNone(kettles.stop("grande"))
        self.assertEqual([kettles.in_work(name) for name in NAMES], [False, True, True, True])
        self.assertIsNone(kettles.start("grande"))
        self.assertEqual([kettles.in_work(name) for name in NAMES], [True] * 4)
        kettles.stop("grande")
        kettles.stop("batterie")
        self.assertEqual([kettles.in_work(name) for name in NAMES], [False, True, True, False])

    def test_out_of_work_nothing_boils(self):
        kettles = kettles_of_row(grande=juice(100, 800), sirop=juice(10, 200))
        kettles.stop("grande")
        kettles.boil_on(3)
        self.assert_juices(kettles, grande=juice(100, 800), sirop=juice(10, 140))
        self.assertEqual((kettles.hour(), kettles.boiled_off()), (3, (60, 1)))
        kettles.start("grande")
        kettles.boil_on(1)
        self.assert_juices(kettles, grande=juice(100, 760), sirop=juice(10, 120))
        self.assertEqual((kettles.hour(), kettles.boiled_off()), (4, (120, 1)))

    def test_all_else_may_be_done_out_of_work(self):
        kettles = kettles_of_row()
        for name in NAMES:
            kettles.stop(name)
        kettles.pour("grande", juice(100, 800))
        self.assertEqual(kettles.dip("grande", (1, 2)), juice(50, 400))
        self.assertEqual(kettles.ladle("grande", "flambeau", (1, 2)), juice(25, 200))
        self.assertEqual(kettles.skim("flambeau", (1, 5), (1, 5), "sirop"), (juice(1, 8), juice(4, 32)))
        self.assert_juices(kettles, grande=juice(25, 200), flambeau=juice(20, 160), sirop=juice(1, 8))

    def test_out_of_work_it_may_be_ready(self):
        kettles = kettles_of_row(sirop=juice(10, 10))
        kettles.stop("sirop")
        self.assertIs(kettles.is_ready("sirop"), True)
        self.assert_same(kettles.ready_at("sirop"), (0, 1))


class Boiled(OfKettles):
    def test_each_by_its_own_fire(self):
        kettles = kettles_of_row(grande=juice(10, 900), flambeau=juice(10, 500), sirop=juice(10, 200), batterie=juice(3, 80))
        self.assertIsNone(kettles.boil_on(2))
        self.assert_juices(
            kettles, grande=juice(10, 820), flambeau=juice(10, 440), sirop=juice(10, 160), batterie=juice(3, 60))
        self.assertEqual((kettles.hour(), kettles.boiled_off()), (2, (200, 1)))

    def test_never_past_the_mark(self):
        kettles = kettles_of_row(grande=juice(10, 100), sirop=juice(10, Fraction(31, 3)))
        kettles.boil_on(2)
        self.assert_juices(kettles, grande=juice(10, 30), sirop=juice(10, 10))
        self.assert_same(kettles.boiled_off(), (211, 3))
        self.assertIs(kettles.is_ready("grande"), True)
        self.assertIs(kettles.is_ready("sirop"), True)
        kettles.boil_on(1000)
        self.assert_juices(kettles, grande=juice(10, 30), sirop=juice(10, 10))
        self.assertEqual((kettles.hour(), kettles.boiled_off()), (1002, (211, 3)))

    def test_stronger_stays(self):
        kettles = kettles_of_row(grande=juice(10, 29), sirop=juice(10, 0))
        kettles.boil_on(5)
        self.assert_juices(kettles, grande=juice(10, 29), sirop=juice(10, 0))
        self.assertEqual((kettles.hour(), kettles.boiled_off()), (5, (0, 1)))

    def test_water_alone_boils_away(self):
        kettles = kettles_of_row(sirop=juice(0, 50))
        kettles.boil_on(2)
        self.assert_juices(kettles, sirop=juice(0, 10))
        kettles.boil_on(1)
        self.assert_juices(kettles)
        self.assertEqual((kettles.hour(), kettles.boiled_off()), (3, (50, 1)))
        self.assertIs(kettles.is_ready("sirop"), False)

    def test_no_hours(self):
        kettles = kettles_of_row(grande=juice(100, 800))
        before = kettles_told(kettles)
        self.assertIsNone(kettles.boil_on(0))
        self.assertEqual(kettles_told(kettles), before)

    def test_no_fire(self):
        kettles = Kettles(Row([("pan", 100, 0, (1, 2))], []))
        kettles.pour("pan", juice(10, 90))
        kettles.boil_on(1000)
        self.assertEqual((kettles.juice_of("pan"), kettles.boiled_off(), kettles.hour()), (juice(10, 90), (0, 1), 1000))

    def test_empty_kettles(self):
        kettles = kettles_of_row()
        kettles.boil_on(7)
        self.assert_juices(kettles)
        self.assertEqual((kettles.hour(), kettles.boiled_off()), (7, (0, 1)))

    def test_hours_in_parts(self):
        juices = {"grande": juice(13, 900), "flambeau": juice(100, 400), "sirop": juice(0, 100), "batterie": juice(50, 17)}
        for parts in [[9], [1] * 9, [4, 5], [0, 8, 0, 1], [2, 3, 4]]:
            kettles = kettles_of_row(**juices)
            for hours in parts:
                kettles.boil_on(hours)
            self.assert_juices(
                kettles, grande=juice(13, 540), flambeau=juice(100, 200), batterie=juice(50, Fraction(50, 3)))
            self.assertEqual(kettles.hour(), 9)
            self.assertEqual(kettles.boiled_off(), pair(360 + 200 + 100 + 17 - Fraction(50, 3)))

    def test_what_is_poured_in_between(self):
        kettles = kettles_of_row(sirop=juice(10, 50))
        kettles.boil_on(1)
        kettles.pour("sirop", juice(5, 25))
        kettles.boil_on(1)
        self.assert_juices(kettles, sirop=juice(15, 35))
        kettles.boil_on(1)
        self.assert_juices(kettles, sirop=juice(15, 15))
        kettles.pour("sirop", juice(1, 0))
        kettles.boil_on(1)
        self.assert_juices(kettles, sirop=juice(16, 15))
        self.assert_same(kettles.boiled_off(), (60, 1))


class Ready(OfKettles):
    def assert_ready(self, kettles, name, is_ready, when):
        self.assertIs(kettles.is_ready(name), is_ready)
        if when is None:
            self.assertIsNone(kettles.ready_at(name))
        else:
            self.assert_same(kettles.ready_at(name), when)

    def test_later(self):
        kettles = kettles_of_row(grande=juice(100, 800), sirop=juice(10, 20))
        self.assert_ready(kettles, "grande", False, (25, 2))
        self.assert_ready(kettles, "sirop", False, (1, 2))

    def test_the_hour_stays_while_it_boils(self):
        kettles = kettles_of_row(grande=juice(100, 800))
        for hour in range(13):
            self.assertEqual(kettles.hour(), hour)
            self.assert_ready(kettles, "grande", False, (25, 2))
            kettles.boil_on(1)
        self.assert_ready(kettles, "grande", True, (13, 1))
        kettles.boil_on(4)
        self.assert_ready(kettles, "grande", True, (17, 1))

    def test_just_at_the_mark_of_a_whole_hour(self):
        kettles = kettles_of_row(sirop=juice(10, 90))
        self.assert_ready(kettles, "sirop", False, (4, 1))
        kettles.boil_on(3)
        self.assert_ready(kettles, "sirop", False, (4, 1))
        kettles.boil_on(1)
        self.assert_ready(kettles, "sirop", True, (4, 1))

    def test_just_at_just_below_and_just_above_the_mark(self):
        little = Fraction(1, FORTY)
        self.assert_ready(kettles_of_row(sirop=juice(10, 10)), "sirop", True, (0, 1))
        self.assert_ready(kettles_of_row(sirop=juice(10, 10 - little)), "sirop", False, (0, 1))
        self.assert_ready(kettles_of_row(sirop=juice(10, 10 + little)), "sirop", False, pair(little / 20))

    def test_above_the_mark_and_later(self):
        kettles = kettles_of_row(sirop=juice(10, 0))
        kettles.boil_on(6)
        self.assert_ready(kettles, "sirop", False, (6, 1))

    def test_never(self):
        kettles = kettles_of_row(sirop=juice(0, 10), grande=juice(1, 100))
        self.assert_ready(kettles, "sirop", False, None)
        self.assert_ready(kettles, "batterie", False, None)
        kettles.stop("grande")
        self.assert_ready(kettles, "grande", False, None)
        kettles.start("grande")
        self.assert_ready(kettles, "grande", False, pair(Fraction(97, 40)))

    def test_never_over_no_fire(self):
        kettles = Kettles(Row([("pan", 100, 0, (1, 2))], []))
        kettles.pour("pan", juice(10, 11))
        self.assert_ready(kettles, "pan", False, None)
        kettles.pour("pan", juice(1, 0))
        self.assert_ready(kettles, "pan", True, (0, 1))

    def test_out_of_work_and_stronger(self):
        kettles = kettles_of_row(sirop=juice(11, 10))
        kettles.stop("sirop")
        kettles.boil_on(2)
        self.assert_ready(kettles, "sirop", False, (2, 1))

    def test_if_nothing_else_is_done(self):
        kettles = kettles_of_row(sirop=juice(10, 90))
        kettles.boil_on(1)
        kettles.pour("sirop", juice(0, 40))
        self.assert_ready(kettles, "sirop", False, (6, 1))
        kettles.stop("sirop")
        kettles.boil_on(10)
        kettles.start("sirop")
        self.assert_ready(kettles, "sirop", False, (16, 1))


if __name__ == "__main__":
    unittest.main()
