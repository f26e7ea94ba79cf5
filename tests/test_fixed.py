"""Point 6: busy periods and worst response times under fixed priorities."""

import unittest
from itertools import permutations

from eventcore import errors
from eventcore.fixed import busy_period, meets_fixed, worst_job, worst_response
from eventcore.schedules import responses
from support import (Checks, Job, multiples, oracle_length, random_order, random_pattern, random_tasks, rate, rng_of,
                     run_jobs, wrong_indexes, wrong_orders, wrong_tasks)

# Task sets with a busy period of exactly 5000 units, of 5001 units, and of far more, behind all others.
LONG = ((15, 60, 40), (8, 60, 35), (14, 60, 41), (3, 60, 55))
LONGER = ((8, 60, 55), (2, 60, 38), (6, 60, 55), (9, 60, 59), (13, 60, 41), (8, 60, 36))
ENDLESS = ((20, 60, 55), (11, 60, 25), (9, 60, 57), (2, 60, 52))
TWO = ((1, 4, 4), (2, 6, 6))


def members(tasks, order, task):
    """The tasks up to this one in the order."""
    return [tasks[other] for other in order[:order.index(task) + 1]]


def plain_worst(tasks, order, task):
    """(response, number) by running the jobs of the busy period, or None."""
    rows = members(tasks, order, task)
    length = oracle_length(0, rows)
    if length is None:
        return None
    jobs = [Job(place, number, time, rows[place][0], rows[place][1])
            for place, row in enumerate(multiples(rows, length)) for number, time in enumerate(row)]
    run_jobs(jobs, ("fixed", tuple(range(len(rows)))))
    times = [job.finish - job.arrival for job in jobs if job.task == len(rows) - 1]
    return max(times), times.index(max(times))


class BusyPeriodTest(Checks, unittest.TestCase):
    def test_example(self):
        tasks = ((1, 4, 4), (2, 6, 6), (3, 12, 12))
        answers = [[worst_response(tasks, (0, 1, 2), k) for k in (0, 1, 2)], busy_period(tasks, (0, 1, 2), 2)]
        self.assert_same(answers, [[1, 3, 10], 10])

    def test_one_task(self):
        self.assert_same(busy_period(((3, 1, 5),), (0,), 0), 3)
        self.assert_same(busy_period(((1, 1, 1),), (0,), 0), 1)
        self.assert_same(busy_period(((20, 60, 20),), (0,), 0), 20)
        self.assert_same(busy_period(((20, 60, 19),), (0,), 0), None)
        self.assert_same(busy_period(((2, 60, 1),), (0,), 0), None)

    def test_below_exactly_and_above_one(self):
        for cost, wanted in ((1, 3), (2, 4), (3, None)):
            self.assert_same(busy_period(((2, 9, 4), (cost, 9, 4)), (0, 1), 1), wanted)
        below, exact, above = ((1, 9, 2), (1, 9, 3), (1, 9, 7)), ((1, 9, 2), (1, 9, 3), (1, 9, 6)), (
            (1, 9, 2), (1, 9, 3), (1, 9, 5))
        self.assert_same(busy_period(below, (0, 1, 2), 2), 6)
        self.assert_same(busy_period(exact, (0, 1, 2), 2), 6)
        self.assert_same(busy_period(above, (0, 1, 2), 2), None)
        self.assert_same(busy_period(above, (0, 1, 2), 1), 2)
        # 41/42 + 1/43 is just below 1, 41/42 + 1/42 exactly 1, and 41/42 + 1/41 just above.
        for last, wanted in ((43, 42), (42, 42), (41, None)):
            tasks = ((1, 9, 2), (1, 9, 3), (1, 9, 7), (1, 9, last))
            self.assert_same(busy_period(tasks, (3, 2, 1, 0), 0), wanted)

    def test_only_the_tasks_in_front_count(self):
        tasks = ((2, 9, 4), (3, 9, 12), (20, 9, 1))
        self.assert_same(busy_period(tasks, (0, 1, 2), 0), 2)
        self.assert_same(busy_period(tasks, (0, 1, 2), 1), 7)
        self.assert_same(busy_period(tasks, (1, 0, 2), 1), 3)
        self.assert_same(busy_period(tasks, (1, 0, 2), 2), None)
        self.assert_same(busy_period(tasks, (2, 0, 1), 0), None)

    def test_five_thousand_and_beyond(self):
        self.assert_same(busy_period(LONG, (0, 1, 2, 3), 3), 5000)
        self.assert_same(busy_period(LONG, (3, 1, 0, 2), 2), 5000)
        for call in (busy_period, worst_response, worst_job):
            self.assert_error(errors.TooMany(5000), call, LONGER, (0, 1, 2, 3, 4, 5), 5)
            self.assert_error(errors.TooMany(5000), call, ENDLESS, (0, 1, 2, 3), 3)
            self.assertIsNotNone(call(LONGER, (0, 1, 2, 3, 4, 5), 4))
            self.assertIsNotNone(call(ENDLESS, (0, 1, 2, 3), 2))

    def test_no_busy_period_is_told_ahead_of_too_many(self):
        tasks = ENDLESS + ((20, 60, 10),)
        for call in (busy_period, worst_response, worst_job):
            self.assert_error(errors.TooMany(5000), call, tasks, (0, 1, 2, 3, 4), 3)
            self.assert_same(call(tasks, (0, 1, 2, 3, 4), 4), None)

    def test_random_sets(self):
        rng = rng_of(12)
        nothing = 0
        for _ in range(300):
            tasks = random_tasks(rng, most=5, most_cost=4)
            order = random_order(rng, tasks)
            for task in order:
                wanted = oracle_length(0, members(tasks, order, task))
                nothing += wanted is None
                self.assert_same(self.assert_steady(busy_period, tasks, order, task), wanted)
        self.assertGreater(nothing, 50)


class WorstResponseTest(Checks, unittest.TestCase):
    def test_later_jobs_may_have_it(self):
        # Job 1 and not job 0 of the last task has the greatest response time.
        for tasks, wanted in ((((3, 9, 6), (2, 9, 4)), [6, 1]), (((5, 9, 10), (4, 9, 8)), [12, 3]),
                              (((6, 9, 12), (5, 9, 10)), [15, 4])):
            self.assert_same([worst_response(tasks, (0, 1), 1), worst_job(tasks, (0, 1), 1)], wanted)
        rng = rng_of(13)
        late = {}
        for _ in range(3000):
            tasks = random_tasks(rng, most=3, most_cost=9, most_gap=15)
            order = tuple(range(len(tasks)))
            worst = worst_job(tasks, order, order[-1])
            if worst:
                late[worst] = late.get(worst, 0) + 1
                self.assertEqual((worst_response(tasks, order, order[-1]), worst), plain_worst(tasks, order, order[-1]))
        self.assertGreater(len(late), 3)

    def test_the_first_of_several_jobs_is_named(self):
        self.assert_same(worst_job(((1, 9, 1),), (0,), 0), 0)
        self.assert_same(worst_job(((2, 9, 4), (2, 9, 4)), (0, 1), 1), 0)
        self.assert_same(worst_job(((2, 9, 4), (1, 9, 2)), (0, 1), 1), 0)
        self.assert_same(worst_response(((2, 9, 4), (1, 9, 2)), (0, 1), 1), 3)

    def test_response_times_greater_than_the_gap(self):
        tasks = ((10, 60, 14), (2, 60, 7))
        self.assert_same(worst_response(tasks, (0, 1), 1), 12)
        self.assert_same(worst_job(tasks, (0, 1), 1), 0)

    def test_random_sets(self):
        rng = rng_of(14)
        for _ in range(300):
            tasks = random_tasks(rng, most=5, most_cost=4)
            order = random_order(rng, tasks)
            for task in order:
                wanted = plain_worst(tasks, order, task) or (None, None)
                self.assert_same(self.assert_steady(worst_response, tasks, order, task), wanted[0])
                self.assert_same(self.assert_steady(worst_job, tasks, order, task), wanted[1])

    def test_long_busy_periods(self):
        for order in ((0, 1, 2, 3), (3, 2, 1, 0), (1, 3, 0, 2)):
            self.assertEqual((worst_response(LONG, order, order[-1]), worst_job(LONG, order, order[-1])),
                             plain_worst(LONG, order, order[-1]))
        order = (5, 4, 3, 2, 1, 0)
        self.assertEqual((worst_response(LONGER, order, 1), worst_job(LONGER, order, 1)), plain_worst(LONGER, order, 1))

    def test_no_pattern_has_a_greater_response(self):
        rng = rng_of(15)
        reached = 0
        for _ in range(400):
            tasks = random_tasks(rng, most=4, most_cost=4)
            order = random_order(rng, tasks)
            pattern = random_pattern(rng, tasks, most=8, spread=3)
            for task, times in enumerate(responses(tasks, pattern, ("fixed", order))):
                worst = worst_response(tasks, order, task)
                if worst is not None and times:
                    self.assertLessEqual(max(times), worst)
                    reached += max(times) == worst
        self.assertGreater(reached, 50)


class MeetsFixedTest(Checks, unittest.TestCase):
    def test_small_cases(self):
        tasks = ((1, 4, 4), (2, 6, 6), (3, 10, 12))
        self.assertIs(meets_fixed(tasks, (0, 1, 2)), True)
        self.assertIs(meets_fixed(tasks[:2] + ((3, 9, 12),), (0, 1, 2)), False)
        self.assertIs(meets_fixed(((1, 1, 4), (2, 6, 6)), (0, 1)), True)
        self.assertIs(meets_fixed(((1, 1, 4), (2, 6, 6)), (1, 0)), False)
        self.assertIs(meets_fixed(((2, 60, 1),), (0,)), False)
        self.assertIs(meets_fixed(((1, 1, 1),), (0,)), True)

    def test_random_sets(self):
        rng = rng_of(16)
        found = {True: 0, False: 0}
        for _ in range(200):
            tasks = random_tasks(rng, most=4, most_cost=3)
            for order in list(permutations(range(len(tasks))))[:6]:
                rows = [plain_worst(tasks, order, task) for task in range(len(tasks))]
                wanted = all(row is not None and row[0] <= tasks[task][1] for task, row in enumerate(rows))
                self.assertIs(self.assert_steady(meets_fixed, tasks, order), wanted)
                found[wanted] += 1
        self.assertGreater(min(found.values()), 50)

    def test_too_many_even_if_another_task_has_no_busy_period(self):
        self.assertIs(meets_fixed(LONG, (0, 1, 2, 3)), False)
        self.assert_error(errors.TooMany(5000), meets_fixed, LONGER, (0, 1, 2, 3, 4, 5))
        tasks = ENDLESS + ((20, 60, 10),)
        self.assert_error(errors.TooMany(5000), meets_fixed, tasks, (0, 1, 2, 3, 4))
        self.assert_error(errors.TooMany(5000), meets_fixed, tasks[::-1], (4, 3, 2, 1, 0))
        self.assertIs(meets_fixed(tasks, (4, 0, 1, 2, 3)), False)
        # A task that misses its deadline in front of them does not hide it either.
        tasks = ((20, 1, 55),) + ENDLESS[1:]
        self.assert_error(errors.TooMany(5000), meets_fixed, tasks, (0, 1, 2, 3))


class WrongValueTest(Checks, unittest.TestCase):
    def test_wrong_arguments(self):
        orders = [(value, errors.BadOrder()) for value in wrong_orders()]
        places = [(value, errors.BadTask()) for value in wrong_indexes(2)]
        for call in (busy_period, worst_response, worst_job):
            self.assert_wrong_arguments(call, (TWO, (0, 1), 0), [wrong_tasks(errors), orders, places])
        self.assert_wrong_arguments(meets_fixed, (TWO, (0, 1)), [wrong_tasks(errors), orders])

    def test_too_many_comes_last(self):
        for call in (busy_period, worst_response, worst_job):
            self.assert_error(errors.BadTask(), call, ENDLESS, (0, 1, 2, 3), 4)
            self.assert_error(errors.BadOrder(), call, ENDLESS, (0, 1, 2), 3)
        self.assert_error(errors.BadOrder(), meets_fixed, ENDLESS, (0, 1, 2, 2))


class SumOfRatesTest(unittest.TestCase):
    def test_the_long_sets_are_what_they_are_said_to_be(self):
        self.assertEqual([oracle_length(0, LONG), oracle_length(0, LONGER)], [5000, 5001])
        self.assertTrue(all(rate(tasks) <= 1 for tasks in (LONG, LONGER, ENDLESS)))


if __name__ == "__main__":
    unittest.main()
