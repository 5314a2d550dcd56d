"""Works: each deed with its answer, strikes at their marks, the moulds of works, the sums."""

import unittest
from fractions import Fraction

from checks import Checked, works_done
from helpers import is_tuples_through, juice, kettles_told, moulds_told, pair, refusal, works_told
from kettlerow.juices import NOTHING, strength_of
from kettlerow.kettles import Kettles
from kettlerow.moulds import Moulds
from kettlerow.rows import Row
from kettlerow.works import Works
from rowsmade import KETTLES, MOULDS

NONE = (0, 1)


class OfWorks(Checked):
    def assert_done(self, works, deed, answer):
        self.assert_same(works.do(deed), answer)

    def assert_juices(self, works, **juices):
        """In the named kettles and moulds is just so much, in the others nothing."""
        kettles, moulds = works.kettles_now(), works.moulds_now()
        self.assert_holds(kettles.juice_of, kettles.kettle_names(), {
            name: one for name, one in juices.items() if name in kettles.kettle_names()})
        self.assert_holds(moulds.juice_in, moulds.mould_names(), {
            name: one for name, one in juices.items() if name not in kettles.kettle_names()})


class AtFirst(OfWorks):
    def test_all_is_as_in_kettles_and_moulds_at_first(self):
        row = Row(KETTLES, MOULDS)
        works = Works(row)
        self.assertEqual(kettles_told(works.kettles_now()), kettles_told(Kettles(row)))
        self.assertEqual(moulds_told(works.moulds_now()), moulds_told(Moulds(row)))
        self.assertEqual(works.strikes(), [])
        self.assertEqual(works.sums(), ((NONE,) * 6, (NONE,) * 6))

    def test_a_row_without_moulds(self):
        works = Works(Row(KETTLES, []))
        works.do(("juice", "sirop", 10, 10))
        self.assertEqual(refusal(works.do, ("strike", "sirop", [("cone", (1, 2))])), ("NoMould", "cone"))
        self.assertEqual(works.moulds_now().mould_names(), [])


class DeedsOfKettles(OfWorks):
    def test_juice(self):
        works = works_done()
        self.assert_done(works, ("juice", "grande", 100, 800), ("juice",))
        self.assert_juices(works, grande=juice(100, 800))
        self.assert_done(works, ("juice", "grande", 0, 100), ("juice",))
        self.assert_done(works, ("juice", "sirop", 7, 0), ("juice",))
        self.assert_juices(works, grande=juice(100, 900), sirop=juice(7, 0))

    def test_ladle(self):
        works = works_done(("juice", "grande", 100, 800))
        self.assert_done(works, ("ladle", "grande", "flambeau", (1, 3)), ("ladle", juice(Fraction(100, 3), Fraction(800, 3))))
        self.assert_juices(
            works, grande=juice(Fraction(200, 3), Fraction(1600, 3)), flambeau=juice(Fraction(100, 3), Fraction(800, 3)))

    def test_skim(self):
        works = works_done(("juice", "grande", 100, 800))
        self.assert_done(
            works, ("skim", "grande", (1, 10), (1, 4), "sirop"), ("skim", juice(Fraction(5, 2), 20), juice(Fraction(15, 2), 60)))
        self.assert_done(works, ("skim", "grande", (1, 10), NONE, "grande"), ("skim", NOTHING, juice(9, 72)))
        self.assert_juices(works, grande=juice(81, 648), sirop=juice(Fraction(5, 2), 20))

    def test_stop_and_start(self):
        works = works_done(("juice", "grande", 100, 800))
        self.assert_done(works, ("stop", "grande"), ("stop",))
        works.boil_on(2)
        self.assert_juices(works, grande=juice(100, 800))
        self.assertIs(works.kettles_now().in_work("grande"), False)
        self.assert_done(works, ("start", "grande"), ("start",))
        works.boil_on(2)
        self.assert_juices(works, grande=juice(100, 720))
        self.assertEqual(works.kettles_now().hour(), 4)

    def test_boil_on(self):
        works = works_done(("juice", "grande", 100, 800), ("juice", "sirop", 0, 30))
        self.assertIsNone(works.boil_on(0))
        self.assertEqual(works.kettles_now().hour(), 0)
        self.assertIsNone(works.boil_on(2))
        self.assert_juices(works, grande=juice(100, 720))
        self.assertEqual(works.kettles_now().hour(), 2)
        self.assertEqual(works.kettles_now().boiled_off(), (110, 1))


class Strikes(OfWorks):
    def test_a_share_into_a_mould(self):
        works = works_done(("juice", "sirop", 40, 40))
        self.assert_done(works, ("strike", "sirop", [("cone", (1, 4))]), ("strike", 1, (("cone", juice(10, 10)),)))
        self.assert_juices(works, sirop=juice(30, 30), cone=juice(10, 10))
        self.assertEqual(works.moulds_now().bears("cone"), ((1, (1, 1)),))

    def test_shares_of_the_juice_as_it_is_ahead_of_the_strike(self):
        works = works_done(("juice", "sirop", 30, 30))
        filled = (("cone", juice(10, 10)), ("loaf", juice(15, 15)), ("cone", juice(5, 5)))
        self.assert_done(works, ("strike", "sirop", [("cone", (1, 3)), ("loaf", (1, 2)), ("cone", (1, 6))]), ("strike", 1, filled))
        self.assert_juices(works, cone=juice(15, 15), loaf=juice(15, 15))

    def test_shares_whose_sum_has_a_large_bottom(self):
        works = works_done(("juice", "sirop", 100, 100))
        shares = [("cone", (1, 11)), ("loaf", (1, 7)), ("bastard", (1, 12)), ("bastard", (2, 5)), ("bastard", (1, 9))]
        filled = tuple((name, juice(100 * Fraction(*share), 100 * Fraction(*share))) for name, share in shares)
        self.assert_done(works, ("strike", "sirop", shares), ("strike", 1, filled))
        left = 100 * (1 - sum(Fraction(*share) for _, share in shares))
        self.assertEqual(works.kettles_now().juice_of("sirop"), juice(left, left))

    def test_all_of_it(self):
        works = works_done(("juice", "sirop", 100, 100))
        self.assert_done(works, ("strike", "sirop", (("bastard", (1, 1)),)), ("strike", 1, (("bastard", juice(100, 100)),)))
        self.assert_juices(works, bastard=juice(100, 100))
        self.assertEqual(refusal(works.do, ("strike", "sirop", [("bastard", (1, 2))])), ("Empty", "sirop"))

    def test_twelve_pours(self):
        works = works_done(("juice", "sirop", 36, 36))
        pours = [("bastard", (1, 12))] * 12
        self.assert_done(works, ("strike", "sirop", pours), ("strike", 1, (("bastard", juice(3, 3)),) * 12))
        self.assert_juices(works, bastard=juice(36, 36))
        self.assertEqual(pours, [("bastard", (1, 12))] * 12)

    def test_till_a_mould_is_just_full(self):
        works = works_done(("juice", "sirop", 75, 75))
        self.assert_done(works, ("strike", "sirop", [("cone", (1, 3))]), ("strike", 1, (("cone", juice(25, 25)),)))

    def test_out_of_work_and_ready(self):
        works = works_done(("juice", "sirop", 40, 40), ("stop", "sirop"))
        self.assert_done(works, ("strike", "sirop", [("cone", (1, 4))]), ("strike", 1, (("cone", juice(10, 10)),)))

    def test_numbers_as_strikes_are_done(self):
        works = works_done(("juice", "sirop", 40, 40), ("juice", "batterie", 30, 10))
        self.assertEqual(works.do(("strike", "sirop", [("cone", (1, 8))]))[1], 1)
        self.assertIsNotNone(refusal(works.do, ("strike", "grande", [("cone", (1, 8))])))
        self.assertIsNotNone(refusal(works.do, ("strike", "sirop", [("tip", (1, 1))])))
        self.assertEqual(works.do(("strike", "batterie", [("cone", (1, 8))]))[1], 2)
        works.boil_on(3)
        self.assertEqual(works.do(("strike", "sirop", [("loaf", (1, 8))]))[1], 3)
        self.assertEqual(works.moulds_now().bears("cone"), ((1, (4, 7)), (2, (3, 7))))

    def test_strikes_in_order(self):
        works = works_done(("juice", "sirop", 40, 60), ("juice", "batterie", 30, 10))
        works.do(("strike", "batterie", [("cone", (1, 10)), ("loaf", (1, 5))]))
        works.boil_on(1)
        works.do(("strike", "sirop", [("cone", (1, 8))]))
        works.boil_on(4)
        works.do(("strike", "batterie", [("cone", (1, 2))]))
        awaited = [
            (1, 0, "batterie", (("cone", juice(3, 1)), ("loaf", juice(6, 2)))), (2, 1, "sirop", (("cone", juice(5, 5)),)),
            (3, 5, "batterie", (("cone", juice(Fraction(21, 2), Fraction(7, 2))),)),
        ]
        self.assertEqual(works.strikes(), awaited)
        self.assertIs(type(works.strikes()), list)
        self.assertIs(is_tuples_through(tuple(works.strikes())), True)
        works.strikes().clear()
        self.assertEqual(works.strikes(), awaited)
        self.assertIsNot(works.strikes(), works.strikes())

    def test_each_has_just_its_kettles_mark(self):
        works = works_done(("juice", "grande", 100, 800), ("juice", "flambeau", 10, 23), ("juice", "sirop", 7, 90), 20)
        for kettle, mark in [("grande", (1, 4)), ("flambeau", (1, 3)), ("sirop", (1, 2))]:
            _, _, filled = works.do(("strike", kettle, [("cone", (1, 12)), ("loaf", (1, 12))]))
            for _, poured in filled:
                self.assertEqual(strength_of(poured), mark)


class JustAtTheMark(OfWorks):
    def test_at_a_whole_hour(self):
        works = works_done(("juice", "sirop", 10, 90))
        strike = ("strike", "sirop", [("cone", (1, 1))])
        for _ in range(4):
            self.assertEqual(refusal(works.do, strike), ("NotReady", (4, 1)))
            works.boil_on(1)
        self.assert_done(works, strike, ("strike", 1, (("cone", juice(10, 10)),)))

    def test_between_two_hours(self):
        works = works_done(("juice", "grande", 10, 67), 0)
        strike = ("strike", "grande", [("cone", (1, 1))])
        self.assertEqual(refusal(works.do, strike), ("NotReady", (37, 40)))
        works.boil_on(1)
        self.assert_done(works, strike, ("strike", 1, (("cone", juice(10, 30)),)))

    def test_weaker_and_stronger_by_one(self):
        strike = ("strike", "sirop", [("cone", (1, 10))])
        self.assertEqual(refusal(works_done(("juice", "sirop", 100, 101)).do, strike), ("NotReady", (1, 20)))
        self.assertIsNone(refusal(works_done(("juice", "sirop", 100, 100)).do, strike))
        self.assertEqual(refusal(works_done(("juice", "sirop", 100, 99)).do, strike), ("TooStrong", (100, 199)))

    def test_made_weaker_it_may_be_struck(self):
        works = works_done(("juice", "sirop", 100, 99), 3)
        strike = ("strike", "sirop", [("cone", (1, 10))])
        self.assertEqual(refusal(works.do, strike), ("TooStrong", (100, 199)))
        works.do(("juice", "sirop", 0, 2))
        self.assertEqual(refusal(works.do, strike), ("NotReady", (61, 20)))
        works.boil_on(1)
        self.assert_done(works, strike, ("strike", 1, (("cone", juice(10, 10)),)))


class DeedsOfMoulds(OfWorks):
    def test_drain_and_knock(self):
        works = works_done(("juice", "sirop", 40, 40), ("strike", "sirop", [("cone", (1, 2))]))
        self.assert_done(works, ("drain", "cone"), ("drain", juice(5, 20)))
        self.assertEqual((works.moulds_now().vat(), works.moulds_now().is_cured("cone")), (juice(5, 20), True))
        self.assert_done(works, ("knock", "cone"), ("knock", (15, 1), ((1, (1, 1)),)))
        self.assertEqual(works.moulds_now().loaves(), [("cone", (15, 1), ((1, (1, 1)),))])
        self.assert_juices(works, sirop=juice(20, 20))

    def test_drips(self):
        works = works_done(("juice", "sirop", 40, 40), ("strike", "sirop", [("cone", (1, 2))]), ("drain", "cone"))
        self.assert_done(works, ("drips", "grande", (2, 5)), ("drips", juice(2, 8)))
        self.assert_juices(works, sirop=juice(20, 20), cone=juice(15, 0), grande=juice(2, 8))
        self.assertEqual(works.moulds_now().vat(), juice(3, 12))
        self.assert_done(works, ("drips", "sirop", (1, 1)), ("drips", juice(3, 12)))
        self.assertEqual(works.moulds_now().vat(), NOTHING)
        self.assert_juices(works, sirop=juice(23, 32), cone=juice(15, 0), grande=juice(2, 8))

    def test_drips_till_the_kettle_is_just_full(self):
        works = works_done(
            ("juice", "batterie", 75, 25), ("strike", "batterie", [("cone", (1, 5))]), ("drain", "cone"), ("juice", "batterie", 0, 35))
        self.assertEqual(works.moulds_now().vat(), juice(Fraction(15, 4), 5))
        self.assertEqual(refusal(works.do, ("drips", "batterie", (4, 7))), None)
        works = works_done(
            ("juice", "batterie", 75, 25), ("strike", "batterie", [("bastard", (1, 5))]), ("drain", "bastard"),
            ("juice", "batterie", 0, 38))
        self.assertEqual(works.moulds_now().vat(), juice(0, 5))
        self.assertEqual(refusal(works.do, ("drips", "batterie", (1, 2))), ("NoRoom", "batterie"))
        self.assert_done(works, ("drips", "batterie", (2, 5)), ("drips", juice(0, 2)))

    def test_a_mould_bears_strikes_of_two_kettles(self):
        works = works_done(
            ("juice", "sirop", 40, 40), ("juice", "batterie", 60, 20), ("strike", "sirop", [("bastard", (1, 2))]),
            ("strike", "batterie", [("bastard", (1, 6)), ("cone", (1, 6))]), ("strike", "sirop", [("bastard", (1, 1))]))
        self.assertEqual(works.moulds_now().bears("bastard"), ((1, (2, 5)), (2, (1, 5)), (3, (2, 5))))
        self.assertEqual(works.moulds_now().bears("cone"), ((2, (1, 1)),))
        works.do(("drain", "bastard"))
        self.assert_done(works, ("knock", "bastard"), ("knock", (50, 1), ((1, (2, 5)), (2, (1, 5)), (3, (2, 5)))))


class Sums(OfWorks):
    def assert_sums(self, works, sugar, water):
        told = works.sums()
        self.assertEqual(told, (tuple(pair(part) for part in sugar), tuple(pair(part) for part in water)))
        self.assertIs(is_tuples_through(told), True)
        for came, *others in [[Fraction(*part) for part in sums] for sums in told]:
            self.assertEqual(sum(others), came)

    def test_step_by_step(self):
        works = works_done()
        self.assert_sums(works, (0,) * 6, (0,) * 6)
        works.do(("juice", "sirop", 40, 80))
        self.assert_sums(works, (40, 40, 0, 0, 0, 0), (80, 80, 0, 0, 0, 0))
        works.boil_on(1)
        self.assert_sums(works, (40, 40, 0, 0, 0, 0), (80, 60, 0, 0, 20, 0))
        works.do(("skim", "sirop", (1, 10), (1, 4), "grande"))
        self.assert_sums(works, (40, 37, 0, 0, 0, 3), (80, Fraction(111, 2), 0, 0, 20, Fraction(9, 2)))
        works.boil_on(1)
        self.assert_sums(works, (40, 37, 0, 0, 0, 3), (80, Fraction(75, 2), 0, 0, 38, Fraction(9, 2)))
        works.do(("strike", "sirop", [("cone", (1, 3))]))
        self.assert_sums(works, (40, 25, 12, 0, 0, 3), (80, Fraction(51, 2), 12, 0, 38, Fraction(9, 2)))
        works.do(("drain", "cone"))
        self.assert_sums(works, (40, 25, 9, 3, 0, 3), (80, Fraction(51, 2), 0, 12, 38, Fraction(9, 2)))
        works.do(("knock", "cone"))
        self.assert_sums(works, (40, 25, 0, 3, 9, 3), (80, Fraction(51, 2), 0, 12, 38, Fraction(9, 2)))
        works.do(("drips", "flambeau", (1, 3)))
        self.assert_sums(works, (40, 26, 0, 2, 9, 3), (80, Fraction(59, 2), 0, 8, 38, Fraction(9, 2)))
        works.boil_on(100)
        self.assert_sums(works, (40, 26, 0, 2, 9, 3), (80, Fraction(55, 2), 0, 8, 40, Fraction(9, 2)))

    def test_ladling_and_refusals_change_no_sum(self):
        works = works_done(("juice", "grande", 100, 800))
        before = works.sums()
        works.do(("ladle", "grande", "sirop", (1, 4)))
        works.do(("stop", "grande"))
        for deed in [
            ("juice", "grande", 1000, 0), ("juice", "pot", 1, 1), ("skim", "pot", (1, 2), NONE, "sirop"), ("knock", "cone"),
            ("drips", "sirop", (1, 2)), ("strike", "grande", [("cone", (1, 2))]),
        ]:
            self.assertIsNotNone(refusal(works.do, deed))
        self.assertEqual(works.sums(), before)


class Now(OfWorks):
    def test_kettles_and_moulds_are_their_own(self):
        works = works_done(("juice", "sirop", 40, 40), ("strike", "sirop", [("cone", (1, 2))]), ("drain", "cone"), 3)
        before = works_told(works)
        kettles, moulds = works.kettles_now(), works.moulds_now()
        self.assertIs(type(kettles), Kettles)
        self.assertIs(type(moulds), Moulds)
        kettles.boil_on(5)
        kettles.pour("grande", juice(1, 1))
        kettles.stop("sirop")
        moulds.fill(9, [("loaf", juice(1, 1))])
        moulds.knock("cone")
        moulds.draw_off((1, 2))
        self.assertEqual(works_told(works), before)
        works.do(("juice", "grande", 5, 5))
        works.do(("knock", "cone"))
        self.assertEqual(kettles.juice_of("grande"), juice(1, 1))
        self.assertEqual(moulds.loaves(), [("cone", (15, 1), ((1, (1, 1)),))])
        self.assertIsNot(works.kettles_now(), works.kettles_now())
        self.assertIsNot(works.moulds_now(), works.moulds_now())

    def test_they_go_on_as_the_works_would(self):
        works = works_done(("juice", "sirop", 40, 90), ("juice", "grande", 100, 700), 1, ("stop", "grande"))
        kettles = works.kettles_now()
        works.boil_on(2)
        kettles.boil_on(2)
        self.assertEqual(kettles_told(kettles), kettles_told(works.kettles_now()))


if __name__ == "__main__":
    unittest.main()
