"""Works over many deeds: sums of all, strikes at their marks and in order, likes, two by turns, the greatest."""

import unittest
from fractions import Fraction

from deedsmade import deed
from helpers import Turns, juice, kettles_told, moulds_told, pair, told_or_refused, values, works_told
from kettlerow.juices import strength_of
from kettlerow.kettles import Kettles
from kettlerow.moulds import Moulds
from kettlerow.rows import Row
from kettlerow.works import Works
from model import Model
from rowsmade import GREATEST_KETTLES, GREATEST_MOULDS, KETTLES, MOULDS

SMALL_KETTLES = [("a", 60, 9, (1, 3)), ("b", 50, 4, (1, 2)), ("c", 40, 7, (3, 5))]
SMALL_MOULDS = [("d", 6, (1, 2)), ("e", 15, (0, 1)), ("f", 9, (7, 12))]
ROWS = [(KETTLES, MOULDS, 400), (SMALL_KETTLES, SMALL_MOULDS, 40), ([("a", 90, 5, (1, 2))], [("b", 60, (1, 3))], 60)]
HOURS = [1, 1, 2, 5, 20]


def names_of(things):
    return [thing[0] for thing in things]


def calls_by(seed, many, row=ROWS[0]):
    """Deeds to do and hours to boil on, by turns."""
    turns = Turns(seed)
    kettles, moulds, most = row
    calls = []
    for _ in range(many):
        if turns.below(4) == 0:
            calls.append(("boil_on", turns.one_of(HOURS)))
        calls.append(("do", deed(turns, names_of(kettles), names_of(moulds), most)))
    return calls


def called(works, call):
    return told_or_refused(getattr(works, call[0]), call[1])


def called_each(works, calls):
    for call in calls:
        called(works, call)


def works_of(row):
    return Works(Row(row[0], row[1]))


def times(told, many):
    """A told amount, juice or tuple of such, each many times as much."""
    if len(told) == 2 and isinstance(told[1], int):
        return pair(Fraction(*told) * many)
    return tuple(times(part, many) for part in told)


class AgainstTheModel(unittest.TestCase):
    def test_each_row(self):
        words = {}
        for at, row in enumerate(ROWS):
            for seed in range(10):
                works, model = works_of(row), Model(row[0], row[1])
                for call in calls_by(100 * at + seed, 150, row):
                    awaited = model.attempt(*call)
                    self.assertEqual(called(works, call), awaited, call)
                    self.assertEqual(works_told(works), model.works_told(), call)
                    if call[0] == "do":
                        word = (call[1][0], awaited[0])
                        words[word] = words.get(word, 0) + 1
        for word in ["juice", "ladle", "skim", "stop", "start", "strike", "drain", "knock", "drips"]:
            self.assertGreater(words[word, "told"], 9, word)
        for refused in ["NoKettle", "NoMould", "NoShare", "Empty", "NotReady", "TooStrong", "Cured", "NoRoom"]:
            self.assertGreater(words["strike", refused], 3, refused)


class SumsOfAll(unittest.TestCase):
    def test_the_first_of_each_is_the_others_together(self):
        for at, row in enumerate(ROWS):
            works = works_of(row)
            came = [0, 0]
            for call in calls_by(1000 + at, 250, row):
                told = called(works, call)
                if told == ("told", ("juice",)):
                    came = [came[0] + call[1][2], came[1] + call[1][3]]
                for place, sums in enumerate(works.sums()):
                    first, *others = [Fraction(*part) for part in sums]
                    self.assertEqual(first, came[place])
                    self.assertEqual(sum(others), came[place])

    def test_each_part_is_what_is_there(self):
        works = works_of(ROWS[1])
        lost = [Fraction(0), Fraction(0)]
        for call in calls_by(1010, 250, ROWS[1]):
            told = called(works, call)
            if told[0] == "told" and call[0] == "do" and call[1][0] == "skim":
                lost = [part + more for part, more in zip(lost, values(told[1][2]))]
            kettles, moulds = works.kettles_now(), works.moulds_now()
            held = [values(kettles.juice_of(name)) for name in kettles.kettle_names()]
            filled = [values(moulds.juice_in(name)) for name in moulds.mould_names()]
            loaves = sum(Fraction(*sugar) for _, sugar, _ in moulds.loaves())
            sugar, water = works.sums()
            vat = moulds.vat()
            self.assertEqual(sugar[1:], (
                pair(sum(one[0] for one in held)), pair(sum(one[0] for one in filled)), vat[0], pair(loaves), pair(lost[0])))
            self.assertEqual(water[1:], (
                pair(sum(one[1] for one in held)), pair(sum(one[1] for one in filled)), vat[1], kettles.boiled_off(), pair(lost[1])))


class StrikesOfAll(unittest.TestCase):
    def test_at_their_marks_and_in_order(self):
        for at, row in enumerate(ROWS):
            marks = {name: mark for name, _, _, mark in row[0]}
            works = works_of(row)
            awaited = []
            for call in calls_by(2000 + at, 300, row):
                told = called(works, call)
                if told[0] == "told" and call[0] == "do" and call[1][0] == "strike":
                    _, number, filled = told[1]
                    awaited.append((number, works.kettles_now().hour(), call[1][1], filled))
                    for (mould, poured), (name, _) in zip(filled, call[1][2]):
                        self.assertEqual((mould, strength_of(poured)), (name, marks[call[1][1]]))
                self.assertEqual(works.strikes(), awaited)
            self.assertEqual([number for number, _, _, _ in awaited], list(range(1, len(awaited) + 1)))
            self.assertGreater(len(awaited), 4)

    def test_what_the_moulds_bear_was_struck(self):
        works = works_of(ROWS[1])
        for call in calls_by(2010, 300, ROWS[1]):
            called(works, call)
            struck = {(number, name) for number, _, _, filled in works.strikes() for name, _ in filled}
            moulds = works.moulds_now()
            for name in moulds.mould_names():
                self.assertLessEqual({(number, name) for number, _ in moulds.bears(name)}, struck)
            for name, _, bears in moulds.loaves():
                self.assertLessEqual({(number, name) for number, _ in bears}, struck)


class AsKettlesAndMouldsDo(unittest.TestCase):
    def test_each_deed_by_hand(self):
        for at, row in enumerate(ROWS):
            works, kettles, moulds = works_of(row), Kettles(Row(row[0], row[1])), Moulds(Row(row[0], row[1]))
            for word, thing in calls_by(3000 + at, 200, row):
                told = called(works, (word, thing))
                if word == "boil_on":
                    kettles.boil_on(thing)
                elif told[0] == "told":
                    done = thing[0]
                    if done == "juice":
                        kettles.pour(thing[1], juice(thing[2], thing[3]))
                    elif done in ("ladle", "skim", "stop", "start"):
                        getattr(kettles, done)(*thing[1:])
                    elif done in ("drain", "knock"):
                        getattr(moulds, done)(thing[1])
                    elif done == "drips":
                        kettles.pour(thing[1], moulds.draw_off(thing[2]))
                    else:
                        moulds.fill(told[1][1], told[1][2])
                        kettles = works.kettles_now()
                self.assertEqual(kettles_told(works.kettles_now()), kettles_told(kettles))
                self.assertEqual(moulds_told(works.moulds_now()), moulds_told(moulds))


class Likes(unittest.TestCase):
    def test_a_like_tells_the_same(self):
        works = works_of(ROWS[0])
        for call in calls_by(4000, 150):
            called(works, call)
            like = works.like()
            self.assertIs(type(like), Works)
            self.assertIsNot(like, works)
            self.assertEqual(works_told(like), works_told(works))

    def test_what_is_done_to_one_does_nothing_to_the_other(self):
        for seed in range(6):
            works = works_of(ROWS[1])
            called_each(works, calls_by(4100 + seed, 60, ROWS[1]))
            before = works_told(works)
            like = works.like()
            called_each(like, calls_by(4200 + seed, 60, ROWS[1]))
            self.assertEqual(works_told(works), before)
            after = works_told(like)
            called_each(works, calls_by(4300 + seed, 60, ROWS[1]))
            self.assertEqual(works_told(like), after)

    def test_the_same_done_to_both_is_told_alike(self):
        works = works_of(ROWS[1])
        called_each(works, calls_by(4400, 80, ROWS[1]))
        like = works.like().like()
        for call in calls_by(4401, 80, ROWS[1]):
            self.assertEqual(called(like, call), called(works, call))
            self.assertEqual(works_told(like), works_told(works))

    def test_asking_changes_nothing(self):
        asked, unasked = works_of(ROWS[1]), works_of(ROWS[1])
        for call in calls_by(4500, 120, ROWS[1]):
            self.assertEqual(works_told(asked), works_told(asked))
            asked.kettles_now().boil_on(2)
            asked.strikes().append(None)
            asked.moulds_now().loaves().append(None)
            self.assertEqual(called(asked, call), called(unasked, call))
        self.assertEqual(works_told(asked), works_told(unasked))


class ByTurns(unittest.TestCase):
    def test_works_of_two_rows(self):
        one, other = works_of(ROWS[0]), works_of(ROWS[1])
        first, second = Model(*ROWS[0][:2]), Model(*ROWS[1][:2])
        for call, then in zip(calls_by(5000, 150), calls_by(5001, 150, ROWS[1])):
            self.assertEqual(called(one, call), first.attempt(*call))
            self.assertEqual(called(other, then), second.attempt(*then))
            self.assertEqual(works_told(one), first.works_told())
            self.assertEqual(works_told(other), second.works_told())

    def test_two_works_of_one_row(self):
        row = Row(SMALL_KETTLES, SMALL_MOULDS)
        one, other, idle = Works(row), Works(row), Works(row)
        first, second = Model(*ROWS[1][:2]), Model(*ROWS[1][:2])
        for call, then in zip(calls_by(5002, 100, ROWS[1]), calls_by(5003, 100, ROWS[1])):
            self.assertEqual(called(one, call), first.attempt(*call))
            self.assertEqual(called(other, then), second.attempt(*then))
        self.assertEqual(works_told(one), first.works_told())
        self.assertEqual(works_told(other), second.works_told())
        self.assertEqual(works_told(idle), Model(*ROWS[1][:2]).works_told())


class TimesANumber(unittest.TestCase):
    def assert_times(self, told, then, many):
        """All that works tell, where all amounts are so many times as much."""
        (hour, names, each, boiled), (moulds, held, vat, loaves), strikes, sums = told
        each = [(times(one, many), in_work, is_ready, when) for one, in_work, is_ready, when in each]
        held = [(times(one, many), is_cured, bears) for one, is_cured, bears in held]
        loaves = [(name, times(sugar, many), bears) for name, sugar, bears in loaves]
        strikes = [
            (number, when, kettle, tuple((name, times(one, many)) for name, one in filled)) for number, when, kettle, filled in strikes]
        awaited = (
            (hour, names, each, times(boiled, many)), (moulds, held, times(vat, many), loaves), strikes, times(sums, many))
        self.assertEqual(then, awaited)

    def test_all_amounts_times_a_number(self):
        kettles, moulds, _ = ROWS[1]
        for many in [2, 7, 1000]:
            larger = Works(Row(
                [(name, room * many, fire * many, mark) for name, room, fire, mark in kettles],
                [(name, room * many, drip) for name, room, drip in moulds]))
            works = works_of(ROWS[1])
            for call in calls_by(6000 + many, 200, ROWS[1]):
                then = call
                if call[0] == "do" and call[1][0] == "juice":
                    then = ("do", ("juice", call[1][1], call[1][2] * many, call[1][3] * many))
                one, other = called(works, call), called(larger, then)
                self.assertEqual(other[0], one[0])
                if one[0] != "told":
                    self.assertEqual(other, one)
                self.assert_times(works_told(works), works_told(larger), many)


class TheGreatest(unittest.TestCase):
    def test_the_greatest_row(self):
        works = Works(Row(GREATEST_KETTLES, GREATEST_MOULDS))
        kettles, moulds = names_of(GREATEST_KETTLES), names_of(GREATEST_MOULDS)
        for name in kettles:
            works.do(("juice", name, 59 * 10 ** 4, 41 * 10 ** 4))
        works.boil_on(39)
        self.assertEqual(works.kettles_now().juice_of(kettles[0]), juice(59 * 10 ** 4, 2 * 10 ** 4))
        works.boil_on(1000)
        for at, name in enumerate(kettles):
            pours = [(mould, (1, 5)) for mould in moulds[5 * at:5 * at + 5]]
            filled = tuple((mould, juice(118000, 2000)) for mould, _ in pours)
            self.assertEqual(works.do(("strike", name, pours)), ("strike", at + 1, filled))
        for at, mould in enumerate(moulds):
            self.assertEqual(works.do(("drain", mould)), ("drain", juice(Fraction(118000 * 11, 12), 2000)))
            self.assertEqual(works.do(("knock", mould)), ("knock", pair(Fraction(118000, 12)), ((at // 5 + 1, (1, 1)),)))
        sugar = 8 * 59 * 10 ** 4
        self.assertEqual(works.sums(), (
            (pair(sugar), (0, 1), (0, 1), pair(Fraction(sugar * 11, 12)), pair(Fraction(sugar, 12)), (0, 1)),
            (pair(8 * 41 * 10 ** 4), (0, 1), (0, 1), pair(80000), pair(8 * 40 * 10 ** 4), (0, 1))))
        self.assertEqual(len(works.strikes()), 8)
        self.assertEqual({hour for _, hour, _, _ in works.strikes()}, {1039})

    def test_five_thousand_deeds_of_two_by_turns(self):
        made = [(name, 10 ** 6, fire, mark) for (name, _, _, _), fire, mark in zip(
            GREATEST_KETTLES, [900, 10 ** 4, 5000, 70, 2500, 8000, 10 ** 4, 400],
            [(1, 60), (59, 60), (1, 2), (7, 53), (3, 4), (1, 3), (2, 5), (8, 9)])]
        rows = [(made, GREATEST_MOULDS, 10 ** 6), (made[::-1], GREATEST_MOULDS[:3], 10 ** 6)]
        one, other = works_of(rows[0]), works_of(rows[1])
        for call, then in zip(calls_by(7000, 4000, rows[0])[:5000], calls_by(7001, 4000, rows[1])[:5000]):
            called(one, call)
            called(other, then)
        for works in [one, other]:
            for first, *others in works.sums():
                self.assertEqual(sum(Fraction(*part) for part in others), Fraction(*first))
            self.assertEqual(works_told(works.like()), works_told(works))
            self.assertGreater(len(works.strikes()), 10)


if __name__ == "__main__":
    unittest.main()
