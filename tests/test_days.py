"""Days: what is one, and what shows a plan that can be done."""

import copy
import unittest

from daysmodel import all_plans, as_tuples, columns, day_by, greatest_day, is_model_day, is_model_plan, most_model_plan, small_day
from helpers import Turns
from kettlerow.days import is_day, shows_plan
from spoilt import spoilt_anywhere

# Two kettles and four hours.
DAY = ([3, 0, 5, 2], [(2, [2, 2, 2, 2]), (3, [1, 3, 1, 3])], [0, 1, 1, 2])
PLAN = [[2, 1, 2, 2], [0, 2, 1, 2], [0, 0, 1, 2]]
ONE = ([4], [(2, [3])], [5])


class IsDay(unittest.TestCase):
    def assert_day(self, thing, awaited):
        with self.subTest(thing=str(thing)[:300]):
            self.assertIs(is_day(thing), awaited)

    def test_ordinary(self):
        for day in [DAY, ONE, ([0], [(1, [0])], [0]), greatest_day()]:
            self.assert_day(day, True)

    def test_hours(self):
        for hours in [0, 1, 2, 47, 48, 49, 60]:
            day = ([1] * hours, [(1, [2] * hours)] * 3, [3] * hours)
            self.assert_day(day, 1 <= hours <= 48)

    def test_kettles(self):
        for many in [0, 1, 2, 7, 8, 9, 20]:
            self.assert_day(([1, 2], [(1, [2, 0])] * many, [3, 3]), 1 <= many <= 8)

    def test_hours_as_long_as_one_another(self):
        for comes in range(1, 4):
            for takes in range(0, 4):
                for strikes in range(0, 4):
                    day = ([1] * comes, [(1, [1] * comes), (1, [1] * takes)], [1] * strikes)
                    self.assert_day(day, comes == takes == strikes)

    def test_numbers(self):
        for number in [0, 1, 999999, 10 ** 6]:
            self.assert_day(([number], [(1, [number])], [number]), True)
        for number in [-1, 10 ** 6 + 1, 10 ** 50, True, False, None, "1", (1, 1), [1]]:
            self.assert_day(([number], [(1, [1])], [1]), False)
            self.assert_day(([1], [(1, [number])], [1]), False)
            self.assert_day(([1], [(1, [1])], [number]), False)

    def test_rooms(self):
        for room in [1, 2, 10 ** 6]:
            self.assert_day(([1], [(room, [1])], [1]), True)
        for room in [0, -1, 10 ** 6 + 1, True, None, "1", (1, 1), [1]]:
            self.assert_day(([1], [(room, [1])], [1]), False)

    def test_lists_are_lists_and_tuples_tuples(self):
        comes, kettles, strikes = DAY
        for thing in [
            list(DAY), as_tuples(DAY), (tuple(comes), kettles, strikes), (comes, tuple(kettles), strikes), (comes, kettles, tuple(strikes)),
            (comes, [list(kettle) for kettle in kettles], strikes), (comes, [(room, tuple(takes)) for room, takes in kettles], strikes),
        ]:
            self.assert_day(thing, False)

    def test_odd_things(self):
        for thing in [
            None, True, 0, "", "day", (), [], ((), (), ()), ([], [], []), ([1], [], [1]), ([1], [()], [1]), ([1], [(1,)], [1]), (1, 2, 3),
            ([1], [(1, [1], 1)], [1]), ([1], [(1, [1])], [1], []), ([1], [(1, [1])]), [[[[[[]]]]]], ("a", "b", "c"), ("1", [(1, "1")], "1"),
        ]:
            self.assert_day(thing, False)

    def test_spoilt_anywhere(self):
        seen = {True: 0, False: 0}
        for day in [DAY, ONE, small_day(Turns(60)), day_by(Turns(61), 3, 5)]:
            for thing in spoilt_anywhere(day):
                awaited = is_model_day(thing)
                self.assert_day(thing, awaited)
                seen[awaited] += 1
        self.assertGreater(min(seen.values()), 60)


class ShowsPlan(unittest.TestCase):
    def assert_plan(self, day, thing, awaited):
        with self.subTest(day=str(day)[:300], thing=str(thing)[:300]):
            self.assertIs(shows_plan(day, thing), awaited)

    def test_ordinary(self):
        self.assert_plan(DAY, PLAN, True)
        self.assert_plan(DAY, [[0] * 4] * 3, True)
        self.assert_plan(DAY, [[0, 1, 0, 2], [0, 0, 1, 0], [0, 0, 0, 1]], True)

    def test_more_than_it_may_take(self):
        day = ([9, 9], [(9, [2, 3])], [4, 1])
        self.assert_plan(day, [[2, 3], [0, 1]], True)
        self.assert_plan(day, [[3, 3], [0, 1]], False)
        self.assert_plan(day, [[2, 4], [0, 1]], False)
        self.assert_plan(day, [[2, 3], [0, 2]], False)

    def test_more_than_came(self):
        day = ([2, 0, 1], [(9, [9, 9, 9])], [9, 9, 9])
        self.assert_plan(day, [[2, 0, 1], [0, 0, 0]], True)
        self.assert_plan(day, [[1, 1, 1], [0, 0, 0]], True)
        self.assert_plan(day, [[0, 0, 3], [0, 0, 0]], True)
        self.assert_plan(day, [[3, 0, 0], [0, 0, 0]], False)
        self.assert_plan(day, [[2, 1, 0], [0, 0, 0]], False)
        self.assert_plan(day, [[0, 0, 4], [0, 0, 0]], False)

    def test_not_in_the_hour_in_which_it_came_there(self):
        day = ([5, 5], [(9, [5, 5]), (9, [5, 5])], [5, 5])
        self.assert_plan(day, [[2, 0], [0, 2], [0, 0]], True)
        self.assert_plan(day, [[2, 0], [1, 1], [0, 0]], False)
        self.assert_plan(day, [[2, 1], [0, 3], [0, 0]], False)
        self.assert_plan(day, [[2, 0], [0, 2], [0, 1]], False)

    def test_room(self):
        day = ([9, 9, 9], [(2, [9, 9, 9]), (3, [9, 9, 9])], [9, 9, 9])
        self.assert_plan(day, [[2, 0, 0], [0, 0, 0], [0, 0, 0]], True)
        self.assert_plan(day, [[3, 0, 0], [0, 0, 0], [0, 0, 0]], False)
        self.assert_plan(day, [[2, 2, 0], [0, 2, 0], [0, 0, 0]], True)
        self.assert_plan(day, [[2, 2, 0], [0, 1, 0], [0, 0, 0]], False)
        self.assert_plan(day, [[2, 2, 1], [0, 2, 1], [0, 0, 0]], True)
        self.assert_plan(day, [[2, 2, 2], [0, 2, 2], [0, 0, 0]], False)
        self.assert_plan(day, [[2, 2, 2], [0, 2, 2], [0, 0, 1]], True)

    def test_other_things(self):
        for thing in [
            None, True, 0, "", "plan", [], (), [[]], [[], [], []], tuple(PLAN), [tuple(row) for row in PLAN], PLAN[:2], PLAN + [[0] * 4],
            [row[:3] for row in PLAN], [row + [0] for row in PLAN], [[0, 0, 0, False]] + PLAN[1:], [[None] * 4] * 3, [0, 0, 0], ["0000"] * 3,
            [[-1, 1, 0, 0], [0] * 4, [0] * 4], [[(0, 1)] * 4] * 3, [[[0]] * 4] * 3, [[0, 0, 0, 0], [0] * 4, [False] * 4],
        ]:
            self.assert_plan(DAY, thing, False)

    def test_spoilt_anywhere(self):
        seen = {True: 0, False: 0}
        for day, plan in [(DAY, PLAN), (DAY, [[0, 1, 0, 2], [0, 0, 1, 0], [0, 0, 0, 1]]), (ONE, [[2], [0]])]:
            for thing in spoilt_anywhere(plan):
                awaited = is_model_plan(day, thing)
                self.assert_plan(day, thing, awaited)
                seen[awaited] += 1
        self.assertGreater(seen[True], 20)
        self.assertGreater(seen[False], 200)

    def test_all_tables_of_small_days(self):
        turns = Turns(62)
        shown = 0
        for _ in range(40):
            hours = turns.between(1, 2)
            day = (
                [turns.between(1, 2) for _ in range(hours)],
                [(turns.between(1, 2), [turns.between(0, 2) for _ in range(hours)]) for _ in range(2)],
                [turns.between(0, 2) for _ in range(hours)])
            can_be_done = 0
            for cells in columns([2] * (3 * hours)):
                plan = [cells[:hours], cells[hours:2 * hours], cells[2 * hours:]]
                awaited = is_model_plan(day, plan)
                self.assertIs(shows_plan(day, plan), awaited, (day, plan))
                can_be_done += awaited
            self.assertEqual(can_be_done, len(all_plans(day)))
            shown += can_be_done
        self.assertGreater(shown, 60)

    def test_greatest_plans_spoilt(self):
        for turns in [None, Turns(63), Turns(64)]:
            day = greatest_day(turns)
            plan = most_model_plan(day)
            self.assertIs(shows_plan(day, plan), True)
            for place in range(9):
                for hour in range(0, 48, 5):
                    for more in [-1, 1, 10 ** 6 + 1]:
                        other = copy.deepcopy(plan)
                        other[place][hour] += more
                        self.assertIs(shows_plan(day, other), is_model_plan(day, other))

    def test_days_of_lists_or_tuples(self):
        turns = Turns(65)
        for _ in range(30):
            day = day_by(turns, 4, 6, 5)
            plan = most_model_plan(day)
            self.assertIs(shows_plan(as_tuples(day), plan), True)
            plan[0][0] += 1
            self.assertIs(shows_plan(as_tuples(day), plan), False)

    def test_nothing_handed_in_is_changed(self):
        day, plan = copy.deepcopy(DAY), copy.deepcopy(PLAN)
        for _ in range(2):
            self.assertIs(is_day(day), True)
            self.assertIs(shows_plan(day, plan), True)
        self.assertEqual((day, plan), (DAY, PLAN))


if __name__ == "__main__":
    unittest.main()
