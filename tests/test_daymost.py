"""The most that is struck in a day: the plan, first hours, the paper, and the places that bind."""

import copy
import unittest

from daysmodel import (
    all_plans, as_tuples, day_by, greatest_day, greatest_taken, is_model_paper, is_model_plan, most_model_plan, small_day, taken_by,
)
from helpers import Turns, is_tuples_through
from kettlerow.daymost import binding_places, first_hour, most_plan, most_struck
from kettlerow.days import shows_plan

# Two kettles and four hours.
DAY = ([3, 0, 5, 2], [(2, [2, 2, 2, 2]), (3, [1, 3, 1, 3])], [0, 1, 1, 2])
PLAN = [[2, 1, 2, 2], [0, 2, 1, 2], [0, 0, 1, 2]]
NOTHING_COMES = ([0, 0, 0], [(5, [5, 5, 5])], [5, 5, 5])


def widened(day, place):
    """A day in which a place's numbers are one more in each hour, and its room is, too."""
    comes, kettles, strikes = copy.deepcopy(day)
    if place == len(kettles):
        return (comes, kettles, [number + 1 for number in strikes])
    room, takes = kettles[place]
    kettles[place] = (room + 1, [number + 1 for number in takes])
    return (comes, kettles, strikes)


def model_binding(day):
    most = sum(most_model_plan(day)[-1])
    return [place for place in range(len(day[1]) + 1) if sum(most_model_plan(widened(day, place))[-1]) > most]


class Checked(unittest.TestCase):
    def assert_lists(self, told, awaited):
        """Equal, a list of lists of plain numbers, none of which is another one."""
        self.assertEqual(told, awaited)
        self.assertIs(type(told), list)
        for row in told:
            self.assertIs(type(row), list)
            self.assertEqual({type(number) for number in row}, {int})
        self.assertEqual(len({id(row) for row in told}), len(told))


class MostPlan(Checked):
    def test_ordinary(self):
        self.assert_lists(most_plan(DAY), PLAN)
        self.assert_lists(most_plan(([9, 0, 0], [(9, [4, 4, 4])], [9, 3, 9])), [[4, 4, 1], [0, 3, 5]])

    def test_nothing_comes(self):
        self.assert_lists(most_plan(NOTHING_COMES), [[0, 0, 0], [0, 0, 0]])
        self.assert_lists(most_plan(([0], [(1, [0])], [0])), [[0], [0]])

    def test_one_hour(self):
        self.assert_lists(most_plan(([4], [(2, [3])], [5])), [[2], [0]])
        self.assert_lists(most_plan(([4], [(9, [3]), (9, [3])], [5])), [[3], [0], [0]])

    def test_room_is_free_again_in_the_hour_in_which_it_is_taken_from(self):
        self.assert_lists(most_plan(([9, 9, 9], [(2, [9, 9, 9])], [9, 9, 1])), [[2, 2, 1], [0, 2, 1]])

    def test_no_place_takes(self):
        self.assert_lists(most_plan(([9, 9], [(2, [0, 0]), (9, [9, 9])], [9, 9])), [[0, 0], [0, 0], [0, 0]])
        self.assert_lists(most_plan(([9, 9, 9], [(2, [9, 9, 9])], [0, 0, 0])), [[2, 0, 0], [0, 0, 0]])

    def test_can_be_done(self):
        turns = Turns(60)
        for _ in range(60):
            day = day_by(turns, 8, 12)
            self.assertIs(is_model_plan(day, most_plan(day)), True)
            self.assertIs(shows_plan(day, most_plan(day)), True)

    def test_beside_all_plans(self):
        turns = Turns(61)
        plans = 0
        for _ in range(80):
            day = small_day(turns)
            self.assertEqual(taken_by(most_plan(day)), greatest_taken(day), day)
            plans += len(all_plans(day))
        self.assertGreater(plans, 1000)

    def test_as_bounds_lowered(self):
        turns = Turns(62)
        for _ in range(60):
            day = day_by(turns)
            self.assert_lists(most_plan(day), most_model_plan(day))

    def test_the_greatest(self):
        whole = 10 ** 6
        self.assert_lists(most_plan(greatest_day()), [[0] * place + [whole] * (48 - place) for place in range(9)])
        for turns in [Turns(63), Turns(64)]:
            day = greatest_day(turns)
            self.assert_lists(most_plan(day), most_model_plan(day))

    def test_the_askers_own(self):
        first = most_plan(DAY)
        first[0][0] = "spoilt"
        first.append(None)
        self.assert_lists(most_plan(DAY), PLAN)

    def test_days_of_lists_or_tuples_and_unchanged(self):
        turns = Turns(65)
        for _ in range(30):
            day = day_by(turns, 4, 10)
            kept = copy.deepcopy(day)
            for tell in [most_plan, most_struck, binding_places, lambda one: first_hour(one, 3)]:
                self.assertEqual(tell(as_tuples(day)), tell(day))
            self.assertEqual(day, kept)


class FirstHour(Checked):
    def test_ordinary(self):
        # By the ends of its hours 0, 0, 1 and 3 are struck.
        for many, awaited in [(1, 2), (2, 3), (3, 3), (4, None), (10 ** 9, None)]:
            self.assertEqual(first_hour(DAY, many), awaited)

    def test_none(self):
        for many in [1, 2, 10 ** 6]:
            self.assertIsNone(first_hour(NOTHING_COMES, many))
            self.assertIsNone(first_hour(([9], [(9, [9])], [9]), many))

    def test_the_first_of_several(self):
        day = ([5] + [0] * 9, [(5, [5] * 10)], [0, 0, 2, 0, 0, 2, 0, 0, 0, 9])
        for many, awaited in [(1, 2), (2, 2), (3, 5), (4, 5), (5, 9), (6, None)]:
            self.assertEqual(first_hour(day, many), awaited)

    def test_by_turns(self):
        turns = Turns(66)
        for _ in range(40):
            day = day_by(turns, 4, 20)
            struck = taken_by(most_model_plan(day))[-1]
            for many in [1, 2, 3, 5, 20, struck[-1], struck[-1] + 1]:
                hours = [hour for hour, number in enumerate(struck) if number >= many]
                if many:
                    self.assertEqual(first_hour(day, many), hours[0] if hours else None)

    def test_the_greatest(self):
        day = greatest_day()
        self.assertEqual(first_hour(day, 1), 8)
        self.assertEqual(first_hour(day, 10 ** 6 + 1), 9)
        self.assertEqual(first_hour(day, 40 * 10 ** 6), 47)
        self.assertIsNone(first_hour(day, 40 * 10 ** 6 + 1))


class MostStruck(Checked):
    def assert_struck(self, day, awaited):
        told = most_struck(day)
        self.assertIs(type(told), tuple)
        many, paper = told
        self.assertEqual(many, awaited)
        self.assertIs(type(many), int)
        self.assertIs(type(paper), list)
        self.assertIs(all(is_tuples_through(bound) for bound in paper), True)
        self.assertIs(is_model_paper(day, many, paper), True, (day, paper))

    def test_ordinary(self):
        self.assert_struck(DAY, 3)
        self.assert_struck(NOTHING_COMES, 0)
        self.assert_struck(([4], [(2, [3])], [5]), 0)
        self.assert_struck(([9, 0, 0], [(9, [4, 4, 4])], [9, 3, 9]), 8)

    def test_each_bound(self):
        for day, awaited in [
            (([5, 5], [(9, [9, 9])], [9, 9]), 5), (([5, 5], [(9, [3, 9])], [9, 9]), 3), (([5, 5], [(9, [9, 9])], [9, 2]), 2),
            (([5, 5, 5], [(3, [9, 9, 9])], [9, 1, 9]), 4), (([5, 5], [(9, [9, 9]), (9, [9, 9])], [9, 9]), 0),
        ]:
            self.assert_struck(day, awaited)
        words = set()
        turns = Turns(74)
        for _ in range(60):
            words |= {word for word, _, _ in most_struck(day_by(turns, 3, 8, 6))[1]}
        self.assertEqual(words, {"takes", "ahead", "room", "comes", "begin"})

    def test_no_plan_strikes_more(self):
        turns = Turns(67)
        for _ in range(80):
            day = small_day(turns)
            self.assert_struck(day, max(sum(plan[-1]) for plan in all_plans(day)))

    def test_by_turns(self):
        turns = Turns(68)
        for _ in range(80):
            day = day_by(turns)
            self.assert_struck(day, sum(most_model_plan(day)[-1]))

    def test_the_greatest(self):
        self.assert_struck(greatest_day(), 40 * 10 ** 6)
        for turns in [Turns(69), Turns(70), Turns(71)]:
            day = greatest_day(turns)
            self.assert_struck(day, sum(most_model_plan(day)[-1]))

    def test_the_askers_own(self):
        many, paper = most_struck(DAY)
        kept = list(paper)
        paper.append(None)
        paper[0] = "spoilt"
        self.assertEqual(most_struck(DAY), (many, kept))


class BindingPlaces(Checked):
    def test_ordinary(self):
        self.assertEqual(binding_places(([9, 9, 9], [(9, [1, 1, 1])], [9, 9, 9])), [0])
        self.assertEqual(binding_places(([9, 9, 9], [(9, [9, 9, 9])], [1, 1, 1])), [1])
        self.assertEqual(binding_places(([9, 9, 9, 9], [(9, [9] * 4), (2, [9] * 4), (9, [9] * 4)], [9] * 4)), [1])

    def test_none_where_juice_is_short(self):
        self.assertEqual(binding_places(NOTHING_COMES), [])
        self.assertEqual(binding_places(([5, 0, 0, 0], [(9, [9] * 4)], [9] * 4)), [])

    def test_none_where_two_bind_together(self):
        self.assertEqual(binding_places(([9, 9, 9], [(9, [2, 2, 2])], [2, 2, 2])), [])

    def test_several(self):
        # What the first takes in its first hour and what is struck in the last one, each by itself, lets more be struck.
        self.assertEqual(binding_places(([9, 9, 9], [(9, [1, 9, 9])], [9, 9, 1])), [0, 1])
        self.assertEqual(binding_places(([9] * 4, [(9, [1, 9, 9, 9]), (9, [9, 9, 1, 9])], [9] * 4)), [0, 1])
        self.assertEqual(binding_places(([9] * 6, [(9, [2] + [9] * 5), (9, [9, 9, 2, 9, 9, 9])], [9, 9, 9, 9, 2, 1])), [0, 1, 2])

    def test_room_and_numbers_at_once(self):
        # Neither its room alone nor its numbers alone would do.
        self.assertEqual(binding_places(([9, 9, 9], [(1, [1, 1, 1])], [9, 9, 9])), [0])

    def test_by_turns(self):
        turns = Turns(72)
        lengths = {}
        for _ in range(250):
            day = day_by(turns, 4, 8, 5)
            told = binding_places(day)
            self.assertEqual(told, model_binding(day), day)
            self.assertIs(type(told), list)
            lengths[len(told)] = lengths.get(len(told), 0) + 1
        self.assertGreater(len(lengths), 2)

    def test_the_greatest(self):
        self.assertEqual(binding_places(greatest_day()), [])
        day = greatest_day(Turns(73))
        self.assertEqual(binding_places(day), model_binding(day))
        # The greatest numbers may be bound to, too.
        self.assertEqual(binding_places(([10 ** 6] * 3, [(10 ** 6, [10 ** 6] * 3)], [10 ** 6 - 1] * 3)), [1])

    def test_the_askers_own(self):
        day = ([9, 9, 9], [(9, [1, 1, 1])], [9, 9, 9])
        told = binding_places(day)
        told.append(7)
        self.assertEqual(binding_places(day), [0])


if __name__ == "__main__":
    unittest.main()
