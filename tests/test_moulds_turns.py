"""Moulds over many deeds: sugar and water of all, likes, two rows by turns, the greatest."""

import unittest
from fractions import Fraction

from deedsmade import mould_call
from helpers import Turns, juice, moulds_told, pair, refusal, told_or_refused, values
from kettlerow.moulds import Moulds
from kettlerow.rows import Row
from model import Model
from rowsmade import GREATEST_KETTLES, GREATEST_MOULDS, KETTLES, MOULDS

NAMES = [name for name, _, _ in MOULDS]
SMALL = [("a", 6, (1, 2)), ("b", 5, (0, 1)), ("c", 9, (7, 12))]
SMALL_NAMES = ["a", "b", "c"]


def called(moulds, call):
    """What a call of a method tells, or how it is refused."""
    return told_or_refused(getattr(moulds, call[0]), *call[1:])


def calls_by(seed, many, names=NAMES, most=40):
    turns = Turns(seed)
    return [mould_call(turns, names, most) for _ in range(many)]


def called_each(moulds, calls):
    for call in calls:
        called(moulds, call)


class AgainstTheModel(unittest.TestCase):
    def assert_as_reckoned(self, made, calls):
        """Each call is told or refused as it is reckoned otherwise; the words that came are told."""
        program, model = Moulds(Row(KETTLES, made)), Model(KETTLES, made)
        words = []
        for call in calls:
            awaited = model.attempt(*call)
            self.assertEqual(called(program, call), awaited, call)
            self.assertEqual(moulds_told(program), model.moulds_told(), call)
            words.append(awaited[0])
        return words

    def test_usual_moulds(self):
        words = []
        for seed in range(12):
            words += self.assert_as_reckoned(MOULDS, calls_by(seed, 120))
        self.assertEqual(sorted(set(words)), ["Cured", "Empty", "NoMould", "NoRoom", "NoShare", "NotCured", "told"])

    def test_small_moulds(self):
        for seed in range(12):
            self.assert_as_reckoned(SMALL, calls_by(100 + seed, 120, SMALL_NAMES, 4))

    def test_one_mould(self):
        for seed in range(4):
            self.assert_as_reckoned([("cone", 50, (1, 4))], calls_by(200 + seed, 100, ["cone"]))


class SumsOfAll(unittest.TestCase):
    def test_sugar_and_water_are_all_there(self):
        for seed in range(10):
            moulds = Moulds(Row(KETTLES, MOULDS))
            sugar, water = Fraction(0), Fraction(0)
            for call in calls_by(300 + seed, 150):
                told = called(moulds, call)
                if told[0] == "told" and call[0] == "fill":
                    sugar += sum(values(one)[0] for _, one in call[2])
                    water += sum(values(one)[1] for _, one in call[2])
                if told[0] == "told" and call[0] == "draw_off":
                    sugar, water = sugar - values(told[1])[0], water - values(told[1])[1]
                held = [values(moulds.juice_in(name)) for name in NAMES] + [values(moulds.vat())]
                loaves = sum(Fraction(*loaf) for _, loaf, _ in moulds.loaves())
                self.assertEqual(sum(part[0] for part in held) + loaves, sugar)
                self.assertEqual(sum(part[1] for part in held), water)

    def test_shares_borne_are_together_one(self):
        for seed in range(5):
            moulds = Moulds(Row(KETTLES, SMALL))
            for call in calls_by(400 + seed, 100, SMALL_NAMES, 4):
                called(moulds, call)
                for name in SMALL_NAMES:
                    bears = moulds.bears(name)
                    self.assertEqual([strike for strike, _ in bears], sorted({strike for strike, _ in bears}))
                    self.assertEqual(sum(Fraction(*share) for _, share in bears), 1 if values(moulds.juice_in(name))[0] else 0)
                for _, _, bears in moulds.loaves():
                    self.assertEqual(sum(Fraction(*share) for _, share in bears), 1)


class Likes(unittest.TestCase):
    def test_a_like_tells_the_same(self):
        moulds = Moulds(Row(KETTLES, MOULDS))
        for call in calls_by(500, 200):
            called(moulds, call)
            like = moulds.like()
            self.assertIs(type(like), Moulds)
            self.assertIsNot(like, moulds)
            self.assertEqual(moulds_told(like), moulds_told(moulds))

    def test_what_is_done_to_one_does_nothing_to_the_other(self):
        for seed in range(8):
            moulds = Moulds(Row(KETTLES, MOULDS))
            called_each(moulds, calls_by(600 + seed, 40))
            before = moulds_told(moulds)
            like = moulds.like()
            called_each(like, calls_by(700 + seed, 40))
            self.assertEqual(moulds_told(moulds), before)
            after = moulds_told(like)
            called_each(moulds, calls_by(800 + seed, 40))
            self.assertEqual(moulds_told(like), after)

    def test_the_same_done_to_both_is_told_alike(self):
        moulds = Moulds(Row(KETTLES, MOULDS))
        called_each(moulds, calls_by(900, 60))
        like = moulds.like().like()
        for call in calls_by(901, 60):
            self.assertEqual(called(like, call), called(moulds, call))
            self.assertEqual(moulds_told(like), moulds_told(moulds))

    def test_asking_changes_nothing(self):
        asked, unasked = Moulds(Row(KETTLES, MOULDS)), Moulds(Row(KETTLES, MOULDS))
        for call in calls_by(902, 100):
            self.assertEqual(moulds_told(asked), moulds_told(asked))
            called(asked.like(), ("fill", 1, [("cone", juice(1, 1))]))
            refusal(asked.juice_in, "pot")
            self.assertEqual(called(asked, call), called(unasked, call))
        self.assertEqual(moulds_told(asked), moulds_told(unasked))


class ByTurns(unittest.TestCase):
    def test_moulds_of_two_rows(self):
        one, other = Moulds(Row(KETTLES, MOULDS)), Moulds(Row(KETTLES, SMALL))
        first, second = Model(KETTLES, MOULDS), Model(KETTLES, SMALL)
        for call, then in zip(calls_by(1000, 150), calls_by(1001, 150, SMALL_NAMES, 4)):
            self.assertEqual(called(one, call), first.attempt(*call))
            self.assertEqual(called(other, then), second.attempt(*then))
            self.assertEqual(moulds_told(one), first.moulds_told())
            self.assertEqual(moulds_told(other), second.moulds_told())

    def test_two_moulds_of_one_row(self):
        row = Row(KETTLES, MOULDS)
        one, other, idle = Moulds(row), Moulds(row), Moulds(row)
        first, second = Model(KETTLES, MOULDS), Model(KETTLES, MOULDS)
        for call, then in zip(calls_by(1002, 100), calls_by(1003, 100)):
            self.assertEqual(called(one, call), first.attempt(*call))
            self.assertEqual(called(other, then), second.attempt(*then))
        self.assertEqual(moulds_told(one), first.moulds_told())
        self.assertEqual(moulds_told(other), second.moulds_told())
        self.assertEqual(moulds_told(idle), Model(KETTLES, MOULDS).moulds_told())
        self.assertEqual((row.kettles, row.moulds), (tuple(KETTLES), tuple(MOULDS)))


class TimesANumber(unittest.TestCase):
    def test_all_amounts_times_a_number(self):
        for many in [2, 7, 1000]:
            large = [(name, room * many, drip) for name, room, drip in SMALL]
            one, other = Moulds(Row(KETTLES, SMALL)), Moulds(Row(KETTLES, large))
            for call in calls_by(1100 + many, 150, SMALL_NAMES, 4):
                then = call
                if call[0] == "fill":
                    then = ("fill", call[1], [(name, tuple(pair(many * part) for part in values(held))) for name, held in call[2]])
                self.assertEqual(called(one, call)[0], called(other, then)[0])
                self.assertEqual(values(other.vat()), tuple(many * part for part in values(one.vat())))
                for name in SMALL_NAMES:
                    self.assertEqual(values(other.juice_in(name)), tuple(many * part for part in values(one.juice_in(name))))
                    self.assertEqual(other.bears(name), one.bears(name))
            self.assertEqual(
                other.loaves(), [(name, pair(many * Fraction(*sugar)), bears) for name, sugar, bears in one.loaves()])


class TheGreatest(unittest.TestCase):
    def test_forty_full_moulds(self):
        names = [name for name, _, _ in GREATEST_MOULDS]
        moulds = Moulds(Row(GREATEST_KETTLES, GREATEST_MOULDS))
        self.assertEqual(moulds.mould_names(), names)
        moulds.fill(1, [(name, juice(6 * 10 ** 5, 4 * 10 ** 5)) for name in names])
        for name in names:
            self.assertEqual(refusal(moulds.fill, 2, [(name, juice(Fraction(1, 10 ** 39), 0))]), ("NoRoom", name))
            self.assertEqual(moulds.drain(name), juice(55 * 10 ** 4, 4 * 10 ** 5))
        self.assertEqual(moulds.vat(), juice(22 * 10 ** 6, 16 * 10 ** 6))
        for name in names[::-1]:
            self.assertEqual(moulds.knock(name), ((5 * 10 ** 4, 1), ((1, (1, 1)),)))
        self.assertEqual(moulds.loaves(), [(name, (5 * 10 ** 4, 1), ((1, (1, 1)),)) for name in names[::-1]])

    def test_five_thousand_deeds(self):
        names = [name for name, _, _ in GREATEST_MOULDS]
        moulds = Moulds(Row(GREATEST_KETTLES, GREATEST_MOULDS))
        sugar = Fraction(0)
        for call in calls_by(1200, 5000, names, 10 ** 6):
            told = called(moulds, call)
            if told[0] == "told" and call[0] == "fill":
                sugar += sum(values(one)[0] for _, one in call[2])
            if told[0] == "told" and call[0] == "draw_off":
                sugar -= values(told[1])[0]
        held = sum(values(moulds.juice_in(name))[0] for name in names) + values(moulds.vat())[0]
        self.assertEqual(held + sum(Fraction(*loaf) for _, loaf, _ in moulds.loaves()), sugar)
        self.assertEqual(moulds_told(moulds.like()), moulds_told(moulds))

    def test_a_mould_that_bears_five_thousand_strikes(self):
        moulds = Moulds(Row(KETTLES, [("cone", 10 ** 6, (1, 4))]))
        for strike in range(5000, 0, -1):
            moulds.fill(strike, [("cone", juice(1, 1))])
        awaited = tuple((strike, (1, 5000)) for strike in range(1, 5001))
        self.assertEqual(moulds.bears("cone"), awaited)
        moulds.drain("cone")
        self.assertEqual(moulds.knock("cone"), ((3750, 1), awaited))


if __name__ == "__main__":
    unittest.main()
