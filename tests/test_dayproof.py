"""Papers of days: what shows how many are struck at most, what doesn't, and a day beside all its plans."""

import copy
import unittest

from daysmodel import all_plans, as_tuples, day_by, greatest_day, is_model_paper, most_model_plan, small_day
from helpers import Turns
from kettlerow.daymost import binding_places, first_hour, most_plan, most_struck
from kettlerow.dayproof import shows_most
from kettlerow.days import shows_plan
from spoilt import spoilt_anywhere

# Two kettles and four hours; 3 are struck at most.
DAY = ([3, 0, 5, 2], [(2, [2, 2, 2, 2]), (3, [1, 3, 1, 3])], [0, 1, 1, 2])
ONE = ([4], [(2, [3])], [5])


def all_papers(day):
    """All papers of a small day, with what each comes to."""
    kettles = len(day[1])
    papers = []
    open_ones = [([], kettles, len(day[0]) - 1, 0)]
    while open_ones:
        paper, place, hour, told = open_ones.pop()
        if hour == -1:
            papers.append((paper + [("begin", place, -1)], told))
            continue
        may = day[2] if place == kettles else day[1][place][1]
        open_ones.append((paper + [("takes", place, hour)], place, hour - 1, told + may[hour]))
        if place == 0:
            papers.append((paper + [("comes", 0, hour)], told + sum(day[0][:hour + 1])))
        else:
            open_ones.append((paper + [("ahead", place, hour)], place - 1, hour - 1, told))
        if place < kettles:
            open_ones.append((paper + [("room", place, hour)], place + 1, hour, told + day[1][place][0]))
    return papers


def by_place(day, place):
    """A paper that comes down to a place by bounds of all words, and what it comes to."""
    return [one for one in all_papers(day) if one[0][-1][1] == place]


class Checked(unittest.TestCase):
    def assert_shown(self, day, many, thing, awaited=True):
        with self.subTest(day=str(day)[:200], many=many, thing=str(thing)[:200]):
            self.assertIs(shows_most(day, many, thing), awaited)


class Papers(Checked):
    def test_ordinary(self):
        self.assert_shown(DAY, 3, [("ahead", 2, 3), ("ahead", 1, 2), ("comes", 0, 1)])
        self.assert_shown(DAY, 4, [("takes", 2, 3), ("takes", 2, 2), ("takes", 2, 1), ("takes", 2, 0), ("begin", 2, -1)])
        self.assert_shown(ONE, 5, [("takes", 1, 0), ("begin", 1, -1)])
        self.assert_shown(ONE, 0, [("ahead", 1, 0), ("begin", 0, -1)])

    def test_room_leads_to_the_place_behind_in_the_same_hour(self):
        paper = [("ahead", 2, 3), ("room", 1, 2), ("takes", 2, 2), ("ahead", 2, 1), ("room", 1, 0), ("ahead", 2, 0), ("begin", 1, -1)]
        self.assert_shown(DAY, 3 + 1 + 3, paper)
        self.assert_shown(DAY, 3 + 1, paper, False)

    def test_all_of_a_day(self):
        for day in [DAY, ONE]:
            for paper, told in all_papers(day):
                self.assert_shown(day, told, paper)
                for other in [told - 1, told + 1, 0 - told - 1, 10 ** 50, -10 ** 50]:
                    self.assert_shown(day, other, paper, False)

    def test_what_comes_counts_through_its_hour(self):
        day = ([3, 4, 5], [(9, [9, 9, 9])], [9, 9, 9])
        self.assert_shown(day, 7, [("ahead", 1, 2), ("comes", 0, 1)])
        self.assert_shown(day, 12, [("takes", 1, 2), ("ahead", 1, 1), ("comes", 0, 0)])
        self.assert_shown(day, 9 + 3, [("takes", 1, 2), ("ahead", 1, 1), ("comes", 0, 0)])
        self.assert_shown(day, 4, [("ahead", 1, 2), ("comes", 0, 1)], False)

    def test_the_first_is_of_the_last_place_and_hour(self):
        for paper, told in [
            ([("takes", 2, 2), ("takes", 2, 1), ("takes", 2, 0), ("begin", 2, -1)], 2),
            ([("ahead", 1, 3), ("comes", 0, 2)], 8), ([("comes", 0, 3)], 10), ([("begin", 2, -1)], 0), ([("begin", 2, 3)], 0),
            ([("room", 1, 3), ("ahead", 2, 3), ("ahead", 1, 2), ("comes", 0, 1)], 6),
        ]:
            self.assert_shown(DAY, told, paper, False)

    def test_to_one_that_has_nothing_behind_it_and_no_more(self):
        paper = [("ahead", 2, 3), ("ahead", 1, 2), ("comes", 0, 1)]
        self.assert_shown(DAY, 0, [], False)
        self.assert_shown(DAY, 0, paper[:1], False)
        self.assert_shown(DAY, 0, paper[:2], False)
        for more in [("comes", 0, 0), ("begin", 0, -1), ("takes", 0, 1), ("comes", 0, 1), None]:
            self.assert_shown(DAY, 3, paper + [more], False)
        ended = [("ahead", 1, 0), ("begin", 0, -1)]
        for more in [("begin", 0, -1), ("takes", 0, -1), ("begin", 0, -2), ("takes", 0, 0)]:
            self.assert_shown(ONE, 0, ended + [more], False)

    def test_where_no_such_bound_is(self):
        # No place is ahead of the first, none behind the strikes, and juice comes to the first alone.
        self.assert_shown(ONE, 3, [("ahead", 1, 0), ("ahead", 0, -1), ("begin", 0, -1)], False)
        day = ([4, 4], [(2, [3, 3])], [5, 5])
        self.assert_shown(day, 0, [("ahead", 1, 1), ("ahead", 0, 0), ("begin", -1, -1)], False)
        self.assert_shown(day, 0, [("ahead", 1, 1), ("ahead", 0, 0), ("begin", 0, -1)], False)
        self.assert_shown(day, 5, [("room", 1, 1), ("takes", 1, 1), ("ahead", 1, 0), ("begin", 0, -1)], False)
        self.assert_shown(day, 8, [("comes", 1, 1)], False)
        self.assert_shown(day, 8, [("comes", 0, 1)], False)
        self.assert_shown(day, 0, [("begin", 1, 1)], False)
        self.assert_shown(day, 0, [("ahead", 1, 1), ("begin", 0, 0)], False)

    def test_ahead_of_all_hours_only_begin_stands(self):
        for word, told in [("takes", 5), ("ahead", 0), ("comes", 0), ("room", 2), ("comes", 4)]:
            self.assert_shown(ONE, told, [("ahead", 1, 0), (word, 0, -1)], False)
            self.assert_shown(ONE, told + 5, [("takes", 1, 0), (word, 1, -1)], False)
        self.assert_shown(ONE, 5, [("takes", 1, 0), ("begin", 0, -1)], False)

    def test_other_words(self):
        for word in ["", "take", "Takes", "takes ", "strikes", None, 0, True, (), ["takes"], ("takes",), [], [[]]]:
            self.assert_shown(ONE, 5, [(word, 1, 0), ("begin", 1, -1)], False)
            self.assert_shown(ONE, 5, [("takes", 1, 0), (word, 1, -1)], False)

    def test_true_and_false_are_no_numbers(self):
        self.assert_shown(ONE, 5, [("takes", True, 0), ("begin", 1, -1)], False)
        self.assert_shown(ONE, 5, [("takes", 1, False), ("begin", 1, -1)], False)
        self.assert_shown(ONE, 0, [("ahead", 1, 0), ("begin", False, -1)], False)

    def test_lists_are_lists_and_tuples_tuples(self):
        paper = [("takes", 1, 0), ("begin", 1, -1)]
        for thing in [tuple(paper), [list(bound) for bound in paper], [paper[0], list(paper[1])], [paper], (paper,)]:
            self.assert_shown(ONE, 5, thing, False)

    def test_days_of_lists_or_tuples(self):
        for paper, told in all_papers(DAY):
            self.assert_shown(as_tuples(DAY), told, paper)
            self.assert_shown(as_tuples(DAY), told + 1, paper, False)


class SpoiltAnywhere(Checked):
    def test_odd_things(self):
        for thing in [None, True, False, 0, "", "takes", (), {}, [None], [()], [[]], [(1, 2, 3)], [("takes",)], [("takes", 1, 0, 0)], [[[[[[]]]]]]]:
            self.assert_shown(ONE, 0, thing, False)
            self.assert_shown(ONE, 5, thing, False)

    def test_each_part(self):
        seen = {True: 0, False: 0}
        days = [DAY, ONE] + [small_day(Turns(seed)) for seed in range(66, 72)]
        for day in days:
            papers = all_papers(day)
            for paper, told in papers[:: max(1, len(papers) // 8)] + [most_struck(day)[::-1]]:
                for thing in spoilt_anywhere(paper):
                    awaited = is_model_paper(day, told, thing)
                    self.assert_shown(day, told, thing, awaited)
                    seen[awaited] += 1
        self.assertGreater(seen[False], 2000)

    def test_the_day_spoilt_beneath(self):
        for paper, told in all_papers(DAY):
            for more in [-1, 1]:
                for place, kettle in enumerate(DAY[1]):
                    day = copy.deepcopy(DAY)
                    day[1][place] = (kettle[0] + more, [number + 1 for number in kettle[1]])
                    self.assert_shown(day, told, paper, is_model_paper(day, told, paper))


class Greatest(Checked):
    def test_most_struck(self):
        for turns in [None, Turns(68), Turns(69), Turns(70)]:
            day = greatest_day(turns)
            many, paper = most_struck(day)
            self.assert_shown(day, many, paper)
            self.assert_shown(day, many + 1, paper, False)
            self.assert_shown(day, many - 1, paper, False)
            self.assertEqual(many, sum(most_model_plan(day)[-1]))
            self.assertIs(shows_plan(day, most_plan(day)), True)
            self.assertEqual(sum(most_plan(day)[-1]), many)
            for at in range(len(paper)):
                self.assert_shown(day, many, paper[:at] + paper[at + 1:], False)

    def test_a_paper_through_all_rooms(self):
        # Up through the rooms of all kettles, an hour ahead down by one, and so on to the begin of all.
        day = greatest_day()
        paper, told, place, hour = [], 0, 8, 47
        while hour >= 0:
            paper.append(("ahead", place, hour))
            place, hour = place - 1, hour - 1
            if hour >= 0:
                paper.append(("room", place, hour))
                place, told = place + 1, told + 10 ** 6
        paper.append(("begin", place, -1))
        self.assert_shown(day, told, paper)
        self.assertEqual(told, 47 * 10 ** 6)
        self.assert_shown(day, told, paper[:-1], False)

    def test_a_paper_of_takes_alone(self):
        day = greatest_day()
        paper = [("takes", 8, hour) for hour in range(47, -1, -1)] + [("begin", 8, -1)]
        self.assert_shown(day, 48 * 10 ** 6, paper)


class AskedAgain(Checked):
    def test_told_the_same_each_time(self):
        turns = Turns(67)
        for _ in range(30):
            day = day_by(turns, 5, 20)
            kept = copy.deepcopy(day)
            first = (most_plan(day), most_struck(day), binding_places(day), first_hour(day, 4))
            for _ in range(2):
                self.assertEqual((most_plan(day), most_struck(day), binding_places(day), first_hour(day, 4)), first)
                self.assert_shown(day, first[1][0], first[1][1])
                self.assertIs(shows_plan(day, first[0]), True)
            self.assertEqual(day, kept)

    def test_what_is_told_is_shared_with_nothing(self):
        day = day_by(Turns(71), 5, 20)
        plan, (many, paper), places = most_plan(day), most_struck(day), binding_places(day)
        kept = copy.deepcopy((plan, paper, places))
        for told in [plan, paper, places, *plan]:
            told.append("spoilt")
        self.assertEqual((most_plan(day), most_struck(day)[1], binding_places(day)), kept)
        self.assertEqual(shows_most(day, many, paper), False)
        paper.pop()
        self.assert_shown(day, many, paper)

    def test_a_day_changed_by_its_asker(self):
        day = ([9, 9], [(9, [9, 9])], [9, 1])
        self.assertEqual(most_struck(day)[0], 1)
        day[2][1] = 4
        self.assertEqual(most_struck(day)[0], 4)
        day[1][0] = (3, [9, 9])
        self.assertEqual(most_struck(day)[0], 3)

    def test_nothing_handed_in_is_changed(self):
        for paper, told in all_papers(DAY):
            day, handed = copy.deepcopy(DAY), list(paper)
            shows_most(day, told, handed)
            shows_most(day, told + 1, handed)
            self.assertEqual((day, handed), (DAY, paper))


class BesideAllPlans(Checked):
    def test_small_days(self):
        turns = Turns(92)
        for _ in range(60):
            day = small_day(turns)
            plans = all_plans(day)
            struck = {sum(plan[-1]) for plan in plans}
            many, paper = most_struck(day)
            self.assertEqual(many, max(struck))
            self.assert_shown(day, many, paper)
            papers = all_papers(day)
            self.assertEqual(min(told for _, told in papers), many)
            self.assertIn((paper, many), papers)
            for other, told in papers:
                self.assertGreaterEqual(told, max(struck))
                self.assert_shown(day, told, other)
            for plan in plans:
                self.assertIs(shows_plan(day, plan), True)
                for row, most in zip(plan, most_plan(day)):
                    for hour in range(len(row)):
                        self.assertLessEqual(sum(row[:hour + 1]), sum(most[:hour + 1]))
            for number in range(1, many + 2):
                hours = [hour for plan in plans for hour in range(len(day[0])) if sum(plan[-1][:hour + 1]) >= number]
                self.assertEqual(first_hour(day, number), min(hours, default=None))

    def test_ends_of_paper_at_each_place(self):
        for place in range(3):
            for paper, told in by_place(DAY, place):
                self.assert_shown(DAY, told, paper)
                self.assertGreaterEqual(told, 3)


if __name__ == "__main__":
    unittest.main()
