"""Steady states: the one that there is, the kinds that lose nothing, what shows steady, and the rounds till a gap."""

import copy
import unittest
from fractions import Fraction

from helpers import FORTY, Turns, is_tuples_through, pair, refusal
from kettlerow.rounds import gap_between, loaves_of, sold_of, walked_on, walked_once
from kettlerow.steady import rounds_till, shows_steady, steady_state
from roundsmodel import amounts_by, are_model_amounts, fracs, kinds_by, model_lossless, model_steady, model_walked, pairs
from spoilt import spoilt_anywhere

NO, HALF, ALL = (0, 1), (1, 2), (1, 1)
TWO = [(100, (1, 4), ((1, 2), (1, 3))), (0, (1, 3), ((0, 1), (1, 1)))]
SIX = [(10 ** 6, (11, 12), tuple([(1, 6)] * 6))] * 6
SLOW = [(10 ** 6, ALL, (NO, ALL, NO, NO, NO, NO)), (0, ALL, (NO, NO, ALL, NO, NO, NO)), (1, ALL, (NO, NO, NO, ALL, NO, NO)),
        (0, ALL, (NO, NO, NO, NO, ALL, NO)), (3, ALL, (NO, NO, NO, NO, NO, ALL)), (0, (11, 12), (ALL, NO, NO, NO, NO, NO))]
SWAPPED = [(1, ALL, (NO, ALL)), (2, ALL, (ALL, NO))]


def kept_kinds(seed, many):
    """Kinds that look like chance and of which each loses something."""
    turns = Turns(seed)
    kinds = []
    while len(kinds) < many:
        some = kinds_by(turns)
        if not model_lossless(some):
            kinds.append(some)
    return kinds


class SteadyStates(unittest.TestCase):
    def assert_steady(self, kinds, awaited):
        told = steady_state(kinds)
        self.assertEqual(told, awaited)
        self.assertIs(type(told), list)
        self.assertIs(all(is_tuples_through(part) for part in told), True)

    def test_ordinary(self):
        self.assert_steady([(10, HALF, (ALL,))], [(20, 1)])
        self.assert_steady([(10, HALF, (HALF,))], [(40, 3)])
        self.assert_steady([(10, NO, (ALL,))], [(10, 1)])
        self.assert_steady(TWO, [pair(Fraction(800, 7)), pair(Fraction(100, 7))])

    def test_nothing_comes(self):
        self.assert_steady([(0, HALF, (ALL,))], [NO])
        self.assert_steady([(0, HALF, (HALF, HALF)), (0, HALF, (HALF, HALF))], [NO, NO])
        self.assert_steady([(7, HALF, (HALF, NO)), (0, HALF, (NO, HALF))], [(28, 3), NO])

    def test_all_drips_and_is_lost_elsewhere(self):
        self.assert_steady([(5, ALL, (NO, ALL)), (0, NO, (NO, NO))], [(5, 1), (5, 1)])
        self.assert_steady([(5, ALL, (NO, ALL)), (3, (11, 12), (ALL, NO))], [(93, 1), (96, 1)])
        # Each sends all of what it has on, but the last one loses a twelfth of it.
        whole = 12 * (10 ** 6 + 4)
        self.assert_steady(SLOW, pairs([
            Fraction(11, 12) * whole + 10 ** 6, Fraction(11, 12) * whole + 10 ** 6, Fraction(11, 12) * whole + 10 ** 6 + 1,
            Fraction(11, 12) * whole + 10 ** 6 + 1, whole, whole]))

    def test_the_greatest(self):
        self.assert_steady(SIX, [(12 * 10 ** 6, 1)] * 6)
        fares = [(10 ** 6 - place, (11 - place, 12 - place), tuple([(1, 7), (1, 8), (1, 9), (1, 10), (1, 11), (1, 12)])) for place in range(6)]
        self.assert_steady(fares, pairs(model_steady(fares)))

    def test_against_cramers_rule(self):
        for kinds in kept_kinds(55, 150):
            self.assert_steady(kinds, pairs(model_steady(kinds)))

    def test_one_round_leaves_it_as_it_is(self):
        for kinds in kept_kinds(56, 150):
            steady = steady_state(kinds)
            self.assertEqual(pairs(model_walked(kinds, fracs(steady))), steady)
            self.assertEqual(walked_on(kinds, steady, 40), steady)
            self.assertIs(all(top >= 0 for top, _ in steady), True)

    def test_loaves_and_sold_are_all_that_is_fresh(self):
        for kinds in kept_kinds(57, 150):
            steady = steady_state(kinds)
            out = sum(fracs(loaves_of(kinds, steady))) + Fraction(*sold_of(kinds, steady))
            self.assertEqual(out, sum(kind[0] for kind in kinds))

    def test_lists_or_tuples_and_lists_of_the_askers_own(self):
        for kinds in kept_kinds(58, 20):
            kept = copy.deepcopy(kinds)
            first = steady_state(kinds)
            steady = list(first)
            first.append(None)
            first[0] = "spoilt"
            self.assertEqual(steady_state(kinds), steady)
            self.assertEqual(steady_state(tuple(kinds)), steady)
            self.assertEqual(kinds, kept)


class LoseNothing(unittest.TestCase):
    def assert_refused(self, kinds, places):
        with self.subTest(kinds=kinds):
            for handed in [kinds, tuple(kinds)]:
                self.assertEqual(refusal(steady_state, handed), ("NoSteady", places))
                self.assertEqual(refusal(rounds_till, handed, [NO] * len(kinds), (1, 1)), ("NoSteady", places))
            self.assertIs(type(refusal(steady_state, kinds)[1]), tuple)

    def test_one(self):
        self.assert_refused([(1, ALL, (ALL,))], (0,))

    def test_nothing_comes_to_them(self):
        self.assert_refused([(0, ALL, (ALL,))], (0,))
        self.assert_refused([(9, HALF, (ALL, NO)), (0, ALL, (NO, ALL))], (1,))

    def test_round_about(self):
        self.assert_refused(SWAPPED, (0, 1))
        self.assert_refused([(1, HALF, (NO, NO, ALL)), (1, ALL, (NO, NO, ALL)), (1, ALL, (NO, ALL, NO))], (1, 2))
        self.assert_refused(
            [(1, ALL, tuple(pair(place == (at + 1) % 6) for place in range(6))) for at in range(6)], (0, 1, 2, 3, 4, 5))

    def test_two_that_do_not_meet(self):
        self.assert_refused([(1, ALL, (ALL, NO, NO)), (1, HALF, (HALF, NO, HALF)), (1, ALL, (NO, NO, ALL))], (0, 2))

    def test_one_that_leads_to_such(self):
        self.assert_refused([(1, ALL, (NO, ALL)), (1, ALL, (NO, ALL))], (0, 1))
        self.assert_refused([(1, ALL, ((1, 3), (2, 3))), (1, ALL, (NO, ALL))], (0, 1))
        self.assert_refused([(1, ALL, ((1, 3), (1, 3))), (1, ALL, (NO, ALL))], (1,))
        self.assert_refused([(1, (11, 12), (NO, ALL)), (1, ALL, (NO, ALL))], (1,))

    def test_none_by_a_hair(self):
        for kinds in [
            [(1, (11, 12), (ALL,))], [(1, ALL, ((11, 12),))], [(1, ALL, (NO, ALL)), (1, ALL, ((11, 12), NO))],
            [(1, ALL, (NO, ALL)), (1, (11, 12), (ALL, NO))], SLOW,
        ]:
            self.assertIsNone(refusal(steady_state, kinds))

    def test_as_among_all_sets_of_places(self):
        turns = Turns(59)
        seen = {}
        for _ in range(400):
            kinds = kinds_by(turns)
            places = model_lossless(kinds)
            self.assertEqual(refusal(steady_state, kinds), ("NoSteady", places) if places else None, kinds)
            seen[len(places)] = seen.get(len(places), 0) + 1
        self.assertGreater(seen[0], 50)
        self.assertGreater(seen[1], 20)
        self.assertGreater(sum(seen[many] for many in seen if many > 1), 20)


class ShowsSteady(unittest.TestCase):
    def test_ordinary(self):
        self.assertIs(shows_steady([(10, HALF, (ALL,))], [(20, 1)]), True)
        self.assertIs(shows_steady([(10, HALF, (ALL,))], [(21, 1)]), False)
        self.assertIs(shows_steady([(10, HALF, (ALL,))], [(0, 1)]), False)
        self.assertIs(shows_steady(((10, HALF, (ALL,)),), [(20, 1)]), True)

    def test_more_than_one_where_nothing_is_lost(self):
        for amount in [NO, (1, 1), (7, 3), (FORTY, 1), (1, FORTY)]:
            self.assertIs(shows_steady([(0, ALL, (ALL,))], [amount]), True)
            self.assertIs(shows_steady([(1, ALL, (ALL,))], [amount]), False)
            self.assertIs(shows_steady([(0, ALL, (NO, ALL)), (0, ALL, (ALL, NO))], [amount, amount]), True)
        self.assertIs(shows_steady([(0, ALL, (NO, ALL)), (0, ALL, (ALL, NO))], [(1, 1), (2, 1)]), False)

    def test_below_none(self):
        # One round would leave this as it is, but amounts are 0 or more.
        self.assertIs(shows_steady([(0, ALL, (ALL,))], [(-1, 1)]), False)

    def test_other_things(self):
        kinds = [(1, HALF, (ALL,))]
        self.assertIs(shows_steady(kinds, [(2, 1)]), True)
        for thing in [
            ((2, 1),), [[2, 1]], [2], [(4, 2)], [(2, True)], [(2, 1), NO], [], [None], None, True, 2, "", (2, 1), [((2, 1),)],
            [(-2, -1)], [(2, 1, 1)], [("2", 1)], [[(2, 1)]],
        ]:
            self.assertIs(shows_steady(kinds, thing), False, thing)
        self.assertIs(shows_steady([(0, NO, (NO,))], [(False, 1)]), False)

    def test_spoilt_anywhere(self):
        for kinds in kept_kinds(60, 12) + [TWO, SIX, [(0, ALL, (ALL,))]]:
            steady = [NO] if kinds == [(0, ALL, (ALL,))] else steady_state(kinds)
            self.assertIs(shows_steady(kinds, steady), True)
            for thing in spoilt_anywhere(steady):
                awaited = are_model_amounts(kinds, thing) and pairs(model_walked(kinds, fracs(thing))) == thing
                self.assertIs(shows_steady(kinds, thing), awaited, (kinds, thing))

    def test_none_other_is_steady(self):
        turns = Turns(61)
        for kinds in kept_kinds(62, 60):
            steady = steady_state(kinds)
            for _ in range(5):
                other = amounts_by(turns, len(kinds))
                self.assertIs(shows_steady(kinds, other), other == steady)
            kept = copy.deepcopy((kinds, steady))
            shows_steady(kinds, steady)
            self.assertEqual((kinds, steady), kept)


class RoundsTill(unittest.TestCase):
    def test_ordinary(self):
        # From 0 the gap is 20, 10, 5 ..
        kinds = [(10, HALF, (ALL,))]
        for most, awaited in [((20, 1), 0), ((19, 1), 1), ((10, 1), 1), ((9, 1), 2), ((5, 1), 2), ((4, 1), 3), ((10 ** 9, 1), 0)]:
            self.assertEqual(rounds_till(kinds, [NO], most), awaited)
        self.assertEqual(rounds_till(kinds, [(20, 1)], (1, FORTY)), 0)

    def test_forty_and_more(self):
        kinds = [(10, HALF, (ALL,))]
        self.assertEqual(rounds_till(kinds, [NO], pair(Fraction(20, 2 ** 40))), 40)
        self.assertIsNone(rounds_till(kinds, [NO], pair(Fraction(20, 2 ** 40) - Fraction(1, FORTY))))
        self.assertIsNone(rounds_till(kinds, [NO], pair(Fraction(20, 2 ** 41))))
        self.assertIsNone(rounds_till(kinds, [(FORTY, 1)], (1, FORTY)))
        self.assertIsNone(rounds_till(SLOW, [NO] * 6, (1, 1)))

    def test_at_once(self):
        self.assertEqual(rounds_till([(10, NO, (NO,))], [(3, 1)], (1, FORTY)), 1)
        self.assertEqual(rounds_till([(10, ALL, (NO, ALL)), (0, NO, (NO, NO))], [NO, NO], (1, FORTY)), 2)

    def test_against_walking(self):
        turns = Turns(63)
        seen = {}
        for kinds in kept_kinds(64, 60):
            amounts = amounts_by(turns, len(kinds))
            steady = fracs(steady_state(kinds))
            most = Fraction(turns.between(1, 10 ** 6), turns.one_of([1, 10 ** 3, 10 ** 7, 10 ** 12]))
            reckoned = fracs(amounts)
            awaited = None
            for rounds in range(41):
                if sum(abs(one - other) for one, other in zip(reckoned, steady)) <= most:
                    awaited = rounds
                    break
                reckoned = model_walked(kinds, reckoned)
            self.assertEqual(rounds_till(kinds, amounts, pair(most)), awaited)
            self.assertEqual(rounds_till(tuple(kinds), tuple(amounts), pair(most)), awaited)
            seen[awaited] = seen.get(awaited, 0) + 1
        self.assertGreater(len(seen), 10)

    def test_each_round_brings_no_farther(self):
        turns = Turns(65)
        for kinds in kept_kinds(66, 40):
            steady = steady_state(kinds)
            amounts = amounts_by(turns, len(kinds))
            gaps = []
            for _ in range(12):
                gaps.append(Fraction(*gap_between(amounts, steady)))
                amounts = walked_once(kinds, amounts)
            self.assertEqual(gaps, sorted(gaps, reverse=True))

    def test_nothing_handed_in_is_changed(self):
        kinds, amounts = list(TWO), [NO, (7, 2)]
        rounds_till(kinds, amounts, (1, 1000))
        self.assertEqual((kinds, amounts), (TWO, [NO, (7, 2)]))

    def test_the_greatest(self):
        amounts = [(FORTY, 1), (1, FORTY), (FORTY, FORTY - 1), (FORTY - 1, FORTY), (FORTY - 2, 10 ** 39), NO]
        gap = gap_between(walked_on(SIX, amounts, 40), steady_state(SIX))
        self.assertEqual(rounds_till(SIX, amounts, gap), 40)
        self.assertIsNone(rounds_till(SIX, amounts, pair(Fraction(*gap) * Fraction(FORTY - 1, FORTY))))


if __name__ == "__main__":
    unittest.main()
