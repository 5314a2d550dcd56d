"""Rounds: what kinds are, one round and many, loaves and what is sold, and gaps."""

import copy
import unittest
from fractions import Fraction

from helpers import FORTY, Turns, is_tuples_through, pair
from kettlerow.rounds import are_kinds, gap_between, loaves_of, sold_of, walked_on, walked_once
from roundsmodel import amounts_by, are_model_kinds, fracs, kinds_by, model_walked, pairs
from spoilt import spoilt_anywhere

NO, HALF, ALL = (0, 1), (1, 2), (1, 1)
TWO = [(100, (1, 4), ((1, 2), (1, 3))), (0, (1, 3), ((0, 1), (1, 1)))]
SIX = [(10 ** 6, (11, 12), tuple([(1, 6)] * 6))] * 6
# To the second kind nothing comes at all.
NOTHING_COMES = [(7, HALF, (HALF, NO)), (0, HALF, (NO, NO))]
ODD_THINGS = [
    None, True, False, 0, 1, "", "kinds", (), [], [()], [[]], ((),), [(1,)], [(1, HALF)], [None], ["abc"], [(1, 2, 3)],
    [(1, HALF, [NO])], [[1, HALF, (NO,)]], ((1, HALF, (NO,)),), [(1, HALF, (NO,), NO)], [[[[[[]]]]]], [((((1,),),),)],
]


class Checked(unittest.TestCase):
    def assert_told(self, told, awaited):
        """Equal, and a list of its own of tuples of plain numbers."""
        self.assertEqual(told, awaited)
        self.assertIs(type(told), list)
        self.assertIs(all(is_tuples_through(part) for part in told), True)


class AreKinds(Checked):
    def assert_kinds(self, thing, awaited):
        with self.subTest(thing=thing):
            self.assertIs(are_kinds(thing), awaited)

    def test_ordinary(self):
        for kinds in [TWO, SIX, NOTHING_COMES, [(0, NO, (NO,))], [(1, ALL, (ALL,))], [(5, HALF, (HALF,))]]:
            self.assert_kinds(kinds, True)

    def test_how_many(self):
        for many in range(1, 9):
            self.assert_kinds([(1, HALF, tuple([NO] * many))] * many, many <= 6)

    def test_as_many_goes_as_kinds(self):
        for many in range(1, 7):
            for goes in range(0, 8):
                self.assert_kinds([(1, HALF, tuple([NO] * goes))] * many, goes == many)

    def test_fresh(self):
        for fresh in [0, 1, 999999, 10 ** 6]:
            self.assert_kinds([(fresh, HALF, (HALF,))], True)
        for fresh in [-1, 10 ** 6 + 1, 10 ** 50, True, False, None, "1", (1, 1), [1]]:
            self.assert_kinds([(fresh, HALF, (HALF,))], False)

    def test_drip_and_goes(self):
        for part in [NO, ALL, HALF, (1, 12), (11, 12), (5, 7), (10, 11)]:
            self.assert_kinds([(1, part, (HALF,))], True)
            self.assert_kinds([(1, HALF, (part,))], True)
        for part in [
            (1, 13), (12, 13), (13, 12), (2, 1), (-1, 2), (-1, 1), (2, 4), (0, 2), (1, 0), (1, -2), 0, 1, True, None, "1/2", [1, 2],
            (1,), (1, 2, 1), (True, 1), (1, True), (False, 1), ("1", 2), (), ((1, 2), (1, 2)),
        ]:
            self.assert_kinds([(1, part, (HALF,))], False)
            self.assert_kinds([(1, HALF, (part,))], False)

    def test_together_at_most_one(self):
        for goes, awaited in [
            ((HALF, HALF), True), (((2, 3), (1, 3)), True), ((ALL, NO), True), (((1, 12), (11, 12)), True), (((7, 11), (4, 11)), True),
            ((HALF, (6, 11)), False), (((2, 3), (2, 3)), False), ((ALL, (1, 12)), False), ((ALL, ALL), False), (((1, 11), (11, 12)), False),
        ]:
            self.assert_kinds([(1, HALF, goes), (1, HALF, (NO, NO))], awaited)
            self.assert_kinds([(1, HALF, (NO, NO)), (1, HALF, goes)], awaited)

    def test_odd_things(self):
        for thing in ODD_THINGS:
            self.assert_kinds(thing, False)

    def test_spoilt_anywhere(self):
        shown = {True: 0, False: 0}
        for kinds in [TWO, SIX, NOTHING_COMES, [(1, ALL, (ALL,))], [(0, NO, (NO,))]]:
            for thing in spoilt_anywhere(kinds):
                awaited = are_model_kinds(thing)
                self.assert_kinds(thing, awaited)
                shown[awaited] += 1
        self.assertGreater(min(shown.values()), 60)

    def test_by_turns(self):
        turns = Turns(51)
        for _ in range(300):
            self.assert_kinds(kinds_by(turns), True)


class OneRound(Checked):
    def test_ordinary(self):
        self.assert_told(walked_once(TWO, [(80, 1), (60, 1)]), [(110, 1), pair(Fraction(20, 3) + 20)])
        self.assert_told(walked_once([(10, HALF, ((1, 3),))], [(60, 1)]), [(20, 1)])
        self.assert_told(walked_once([(10, HALF, ((1, 3),))], [(1, 1)]), [(61, 6)])

    def test_nothing_there(self):
        self.assert_told(walked_once(TWO, [NO, NO]), [(100, 1), NO])

    def test_to_another_place(self):
        # All of the first goes to the second, all of the second to the third, of the third nothing drips.
        kinds = [(1, ALL, (NO, ALL, NO)), (2, ALL, (NO, NO, ALL)), (4, NO, (ALL, NO, NO))]
        self.assert_told(walked_once(kinds, [(10, 1), (20, 1), (40, 1)]), [(1, 1), (12, 1), (24, 1)])

    def test_what_did_not_drip_is_out(self):
        self.assert_told(walked_once([(0, NO, (ALL,))], [(9, 1)]), [NO])
        self.assert_told(walked_once([(0, ALL, (ALL,))], [(9, 1)]), [(9, 1)])

    def test_the_greatest(self):
        amounts = [(FORTY, 1), (1, FORTY), (FORTY, FORTY - 1), (FORTY - 1, FORTY), (FORTY - 2, 10 ** 39), NO]
        come = sum(fracs(amounts)) * Fraction(11, 72) + 10 ** 6
        self.assert_told(walked_once(SIX, amounts), pairs([come] * 6))

    def test_against_pythons_own(self):
        turns = Turns(52)
        for _ in range(300):
            kinds = kinds_by(turns)
            amounts = amounts_by(turns, len(kinds))
            self.assert_told(walked_once(kinds, amounts), pairs(model_walked(kinds, fracs(amounts))))


class ManyRounds(Checked):
    def test_none(self):
        self.assert_told(walked_on(TWO, [(80, 1), (60, 1)], 0), [(80, 1), (60, 1)])

    def test_one_after_another(self):
        turns = Turns(53)
        for _ in range(40):
            kinds = kinds_by(turns)
            amounts = amounts_by(turns, len(kinds))
            reckoned = fracs(amounts)
            for many in range(0, 12):
                self.assert_told(walked_on(kinds, amounts, many), pairs(reckoned))
                reckoned = model_walked(kinds, reckoned)

    def test_forty(self):
        for kinds, amounts in [(TWO, [(80, 1), (60, 1)]), (SIX, [(FORTY, 1), (1, FORTY), NO, NO, NO, (FORTY, FORTY - 1)])]:
            reckoned = fracs(amounts)
            for _ in range(40):
                reckoned = model_walked(kinds, reckoned)
            self.assert_told(walked_on(kinds, amounts, 40), pairs(reckoned))
            self.assertEqual(walked_on(kinds, walked_on(kinds, amounts, 15), 25), pairs(reckoned))

    def test_halves(self):
        self.assert_told(walked_on([(1, HALF, (ALL,))], [NO], 40), [(2 ** 40 - 1, 2 ** 39)])


class LoavesAndSold(Checked):
    def test_ordinary(self):
        self.assert_told(loaves_of(TWO, [(80, 1), (60, 1)]), [(60, 1), (40, 1)])
        self.assertEqual(sold_of(TWO, [(80, 1), (60, 1)]), (10, 3))
        self.assert_told(loaves_of([(5, NO, (NO,))], [(7, 2)]), [(7, 2)])
        self.assertEqual(sold_of([(5, ALL, (NO,))], [(7, 2)]), (7, 2))
        self.assert_told(loaves_of([(5, ALL, (NO,))], [(7, 2)]), [NO])
        self.assertEqual(sold_of([(5, ALL, (ALL,))], [(7, 2)]), NO)
        self.assertEqual(sold_of([(5, NO, (NO,))], [(7, 2)]), NO)

    def test_against_pythons_own(self):
        turns = Turns(54)
        for _ in range(300):
            kinds = kinds_by(turns)
            amounts = amounts_by(turns, len(kinds))
            left = [amount * (1 - Fraction(*kind[1])) for amount, kind in zip(fracs(amounts), kinds)]
            sold = sum(
                amount * Fraction(*drip) * (1 - sum(Fraction(*part) for part in goes))
                for amount, (_, drip, goes) in zip(fracs(amounts), kinds))
            self.assert_told(loaves_of(kinds, amounts), pairs(left))
            self.assertEqual(sold_of(kinds, amounts), pair(sold))
            self.assertIs(is_tuples_through(sold_of(kinds, amounts)), True)

    def test_all_that_is_there_is_somewhere(self):
        turns = Turns(55)
        for _ in range(200):
            kinds = kinds_by(turns)
            amounts = amounts_by(turns, len(kinds))
            fresh = sum(kind[0] for kind in kinds)
            goes_on = sum(fracs(walked_once(kinds, amounts))) - fresh
            out = sum(fracs(loaves_of(kinds, amounts))) + Fraction(*sold_of(kinds, amounts))
            self.assertEqual(goes_on + out, sum(fracs(amounts)))


class Gaps(Checked):
    def test_ordinary(self):
        self.assertEqual(gap_between([(3, 1)], [(5, 1)]), (2, 1))
        self.assertEqual(gap_between([(5, 1)], [(3, 1)]), (2, 1))
        self.assertEqual(gap_between([(1, 2), (1, 3)], [(1, 3), (1, 2)]), (1, 3))
        self.assertEqual(gap_between([(1, 2), (7, 3)], [(1, 2), (7, 3)]), NO)
        self.assertEqual(gap_between([(0, 1)] * 6, [(FORTY, 1)] * 6), (6 * FORTY, 1))

    def test_against_pythons_own(self):
        turns = Turns(56)
        for _ in range(300):
            many = turns.between(1, 6)
            one, other = amounts_by(turns, many), amounts_by(turns, many)
            awaited = pair(sum(abs(mine - yours) for mine, yours in zip(fracs(one), fracs(other))))
            for told in [gap_between(one, other), gap_between(other, one), gap_between(tuple(one), tuple(other))]:
                self.assertEqual(told, awaited)
                self.assertIs(is_tuples_through(told), True)

    def test_no_farther_by_a_round(self):
        turns = Turns(57)
        for _ in range(200):
            kinds = kinds_by(turns)
            one, other = amounts_by(turns, len(kinds)), amounts_by(turns, len(kinds))
            gap = gap_between(one, other)
            self.assertLessEqual(Fraction(*gap_between(walked_once(kinds, one), walked_once(kinds, other))), Fraction(*gap))


class Lists(Checked):
    def test_lists_or_tuples(self):
        turns = Turns(58)
        for _ in range(60):
            kinds = kinds_by(turns)
            amounts = amounts_by(turns, len(kinds))
            for tell in [
                walked_once, lambda k, a: walked_on(k, a, 0), lambda k, a: walked_on(k, a, 3), loaves_of,
                lambda k, a: [sold_of(k, a)],
            ]:
                awaited = tell(kinds, amounts)
                for made, handed in [(tuple(kinds), amounts), (kinds, tuple(amounts)), (tuple(kinds), tuple(amounts))]:
                    self.assert_told(tell(made, handed), awaited)

    def test_the_askers_own(self):
        amounts = [(80, 1), (60, 1)]
        for tell in [
            lambda: walked_once(TWO, amounts), lambda: walked_on(TWO, amounts, 0), lambda: walked_on(TWO, amounts, 1),
            lambda: walked_on(TWO, amounts, 5), lambda: loaves_of(TWO, amounts),
        ]:
            first = tell()
            kept = list(first)
            self.assertIsNot(first, amounts)
            self.assertIsNot(tell(), first)
            first.append("spoilt")
            first[0] = None
            self.assertEqual(tell(), kept)
        self.assertEqual(amounts, [(80, 1), (60, 1)])

    def test_nothing_handed_in_is_changed(self):
        turns = Turns(59)
        for _ in range(30):
            kinds = kinds_by(turns)
            amounts = amounts_by(turns, len(kinds))
            kept = copy.deepcopy((kinds, amounts))
            are_kinds(kinds)
            for tell in [walked_once, loaves_of, sold_of, lambda k, a: walked_on(k, a, 7), lambda k, a: gap_between(a, a)]:
                self.assertEqual(tell(kinds, amounts), tell(kinds, amounts))
            self.assertEqual((kinds, amounts), kept)


if __name__ == "__main__":
    unittest.main()
