"""Rounds walked in works: what is struck, drips and goes back there is what walking the kinds tells."""

import unittest
from fractions import Fraction

from helpers import Turns, pair
from kettlerow.juices import strength_of
from kettlerow.rounds import gap_between, loaves_of, sold_of, walked_on, walked_once
from kettlerow.rows import Row
from kettlerow.steady import rounds_till, shows_steady, steady_state
from kettlerow.works import Works

NO, HALF, ALL = (0, 1), (1, 2), (1, 1)
MARKS = [(1, 2), (3, 5), (2, 3), (3, 4), (7, 8), (59, 60)]
# Each can be sent on by shares with a bottom of at most 12 of what is left in the vat.
KINDS = [
    [(120, (1, 4), (ALL,))],
    [(100, (1, 3), (HALF,))],
    [(60, (1, 4), ((1, 2), (1, 4))), (0, (1, 3), ((1, 3), (2, 3)))],
    [(60, (11, 12), (NO, ALL)), (7, (1, 3), (NO, (1, 12)))],
    [(90, (1, 2), ((1, 3), (1, 3), (1, 3))), (12, (1, 3), (NO, NO, ALL)), (0, (1, 6), (NO, NO, NO))],
    [(10 * at, (1, 2 + at), tuple([(1, 6)] * 6)) for at in range(6)],
]


def row_for(kinds):
    """A row of a kettle and a mould for each kind, and a kettle for what is sold."""
    kettles = [("kettle" + "abcdef"[at], 10 ** 5, 997 + at, MARKS[at]) for at in range(len(kinds))]
    moulds = [("mould" + "abcdef"[at], 10 ** 5, drip) for at, (_, drip, _) in enumerate(kinds)]
    return Row(kettles + [("sold", 10 ** 5, 0, HALF)], moulds)


class Walked:
    """Works in which rounds of some kinds are walked, deed by deed."""

    def __init__(self, kinds, amounts):
        self.kinds = kinds
        self.works = Works(row_for(kinds))
        self.kettles = self.works.kettles_now().kettle_names()[:-1]
        self.moulds = self.works.moulds_now().mould_names()
        for kettle, amount in zip(self.kettles, amounts):
            if amount:
                self.works.do(("juice", kettle, amount, 20 * amount))

    def amounts(self):
        """The sugar that each kind has, in its kettle."""
        kettles = self.works.kettles_now()
        return [kettles.juice_of(kettle)[0] for kettle in self.kettles]

    def round(self):
        """Strikes all of each kind into its mould, drains it, sends its drips on, and knocks it out."""
        self.works.boil_on(1000)
        struck = [at for at, (sugar, _) in enumerate(self.amounts()) if sugar]
        for at in struck:
            self.works.do(("strike", self.kettles[at], [(self.moulds[at], ALL)]))
        for at in struck:
            self.works.do(("drain", self.moulds[at]))
            self.send_on(self.kinds[at][2])
            self.works.do(("knock", self.moulds[at]))
        for kettle, (fresh, _, _) in zip(self.kettles, self.kinds):
            if fresh:
                self.works.do(("juice", kettle, fresh, 20 * fresh))

    def send_on(self, goes):
        left = Fraction(1)
        for kettle, part in zip(self.kettles, goes):
            if part != NO:
                self.works.do(("drips", kettle, pair(Fraction(*part) / left)))
                left -= Fraction(*part)
        if left and self.works.moulds_now().vat() != (NO, NO):
            self.works.do(("drips", "sold", ALL))
            self.works.do(("skim", "sold", ALL, NO, "sold"))


class RoundsInWorks(unittest.TestCase):
    def test_each_round_is_as_walked(self):
        turns = Turns(89)
        for kinds in KINDS:
            amounts = [turns.between(1, 500) for _ in kinds]
            walked = Walked(kinds, amounts)
            reckoned = [pair(amount) for amount in amounts]
            for many in range(1, 9):
                before = walked.works.sums()[0]
                loaves = len(walked.works.moulds_now().loaves())
                walked.round()
                told = [sugar for _, sugar, _ in walked.works.moulds_now().loaves()[loaves:]]
                self.assertEqual(told, loaves_of(kinds, reckoned))
                after = walked.works.sums()[0]
                self.assertEqual(pair(Fraction(*after[5]) - Fraction(*before[5])), sold_of(kinds, reckoned))
                reckoned = walked_once(kinds, reckoned)
                self.assertEqual(walked.amounts(), reckoned)
                self.assertEqual(reckoned, walked_on(kinds, [pair(amount) for amount in amounts], many))

    def test_each_strike_has_its_mark(self):
        for kinds in KINDS:
            walked = Walked(kinds, [1 + at for at in range(len(kinds))])
            for _ in range(4):
                walked.round()
            strikes = walked.works.strikes()
            self.assertEqual(len(strikes), 4 * len(kinds))
            for _, _, kettle, filled in strikes:
                self.assertEqual(strength_of(filled[0][1]), MARKS[walked.kettles.index(kettle)])

    def test_nothing_is_anywhere_else(self):
        for kinds in KINDS:
            walked = Walked(kinds, [100] * len(kinds))
            for _ in range(6):
                walked.round()
                for first, *others in walked.works.sums():
                    self.assertEqual(sum(Fraction(*part) for part in others), Fraction(*first))
                self.assertEqual(walked.works.moulds_now().vat(), (NO, NO))

    def test_a_steady_state_is_left_as_it_is(self):
        kinds = [(60, (1, 4), (ALL, NO)), (30, (1, 3), (NO, (1, 2)))]
        steady = steady_state(kinds)
        self.assertEqual(steady, [(80, 1), (36, 1)])
        walked = Walked(kinds, [80, 36])
        for _ in range(5):
            walked.round()
            self.assertEqual(walked.amounts(), steady)
            self.assertIs(shows_steady(kinds, walked.amounts()), True)

    def test_rounds_till_the_steady_state_is_near(self):
        for kinds in KINDS:
            start = [300] * len(kinds)
            many = rounds_till(kinds, [pair(amount) for amount in start], (1, 100))
            walked = Walked(kinds, start)
            steady = steady_state(kinds)
            for rounds in range(many + 1):
                near = Fraction(*gap_between(walked.amounts(), steady)) <= Fraction(1, 100)
                self.assertIs(near, rounds == many)
                walked.round()


if __name__ == "__main__":
    unittest.main()
