"""Point 3: the policies and the two simulators."""

import unittest

from eventcore import errors
from eventcore.simulation import simulate, simulate_runs
from support import (PATTERN_TASKS, Checks, all_policies, oracle_runs, oracle_schedule, random_order, random_pattern,
                     random_tasks, rng_of, wrong_patterns, wrong_policies, wrong_tasks)


class ExampleTest(Checks, unittest.TestCase):
    def test_example(self):
        tasks = ((2, 9, 9), (4, 9, 9), (1, 3, 9))
        pattern = ((0,), (1,), (2,))
        answers = [simulate(tasks, pattern, ('whole deadline',)), simulate_runs(tasks, pattern, ('fixed', (2, 1, 0)))]
        self.assert_same(answers, [
            (0, 0, 2, 1, 1, 1, 1), ((0, 1, 0, 0), (1, 2, 1, 0), (2, 3, 2, 0), (3, 6, 1, 0), (6, 7, 0, 0))])


class PolicyTest(Checks, unittest.TestCase):
    """Small cases, one for each clause of point 3."""

    def assert_schedule(self, tasks, pattern, policy, wanted):
        self.assert_same(self.assert_steady(simulate, tasks, pattern, policy), wanted)

    def test_fixed(self):
        tasks = ((2, 60, 9), (2, 60, 9), (2, 60, 9))
        pattern = ((0,), (1,), (1,))
        self.assert_schedule(tasks, pattern, ("fixed", (0, 1, 2)), (0, 0, 1, 1, 2, 2))
        self.assert_schedule(tasks, pattern, ("fixed", (2, 1, 0)), (0, 2, 2, 1, 1, 0))
        self.assert_schedule(tasks, pattern, ("fixed", (1, 2, 0)), (0, 1, 1, 2, 2, 0))

    def test_deadline(self):
        tasks = ((3, 20, 9), (2, 5, 9))
        self.assert_schedule(tasks, ((0,), (1,)), ("deadline",), (0, 1, 1, 0, 0))
        self.assert_schedule(tasks, ((0,), (16,)), ("deadline",), (0, 0, 0) + (None,) * 13 + (1, 1))

    def test_deadline_ties_go_to_the_smallest_task(self):
        tasks = ((2, 7, 9), (2, 8, 9), (2, 6, 9))
        self.assert_schedule(tasks, ((1,), (0,), (2,)), ("deadline",), (1, 0, 0, 1, 2, 2))
        self.assert_schedule(tasks, ((2,), (1,), (3,)), ("deadline",), (None, 1, 0, 0, 1, 2, 2))

    def test_deadlines_are_those_of_the_jobs(self):
        tasks = ((1, 4, 4), (3, 7, 9))
        self.assert_schedule(tasks, ((0, 4), (0,)), ("deadline",), (0, 1, 1, 1, 0))
        self.assert_schedule(tasks, ((0, 4), (1,)), ("deadline",), (0, 1, 1, 1, 0))
        self.assert_schedule(tasks, ((0, 4), (2,)), ("deadline",), (0, None, 1, 1, 0, 1))

    def test_slack(self):
        tasks = ((1, 4, 9), (4, 6, 9))
        self.assert_schedule(tasks, ((0,), (0,)), ("slack",), (1, 0, 1, 1, 1))
        self.assert_schedule(tasks, ((0,), (0,)), ("deadline",), (0, 1, 1, 1, 1))

    def test_slack_ties_go_to_the_smallest_task(self):
        self.assert_schedule(((2, 5, 9), (2, 5, 9)), ((0,), (0,)), ("slack",), (0, 1, 0, 1))
        self.assert_schedule(((1, 4, 9), (3, 6, 9)), ((0,), (0,)), ("slack",), (0, 1, 1, 1))

    def test_slack_counts_the_units_still_needed(self):
        # The job that runs keeps its slack, the one that waits loses one with each unit.
        self.assert_schedule(((5, 9, 9), (2, 8, 9)), ((0,), (0,)), ("slack",), (0, 0, 0, 1, 0, 1, 0))

    def test_whole(self):
        tasks = ((2, 60, 9), (2, 60, 9), (3, 60, 9))
        pattern = ((1,), (1,), (0,))
        self.assert_schedule(tasks, pattern, ("whole", (0, 1, 2)), (2, 2, 2, 0, 0, 1, 1))
        self.assert_schedule(tasks, pattern, ("whole", (1, 0, 2)), (2, 2, 2, 1, 1, 0, 0))
        self.assert_schedule(tasks, pattern, ("fixed", (1, 0, 2)), (2, 1, 1, 0, 0, 2, 2))

    def test_whole_goes_on_with_the_job_and_not_with_the_task(self):
        tasks = ((1, 60, 9), (2, 60, 2))
        self.assert_schedule(tasks, ((1,), (0, 2)), ("whole", (0, 1)), (1, 1, 0, 1, 1))
        self.assert_schedule(tasks, ((1,), (0, 2)), ("whole", (1, 0)), (1, 1, 1, 1, 0))

    def test_whole_deadline(self):
        tasks = ((2, 3, 9), (3, 20, 9), (1, 9, 9))
        self.assert_schedule(tasks, ((1,), (0,), (1,)), ("whole deadline",), (1, 1, 1, 0, 0, 2))
        self.assert_schedule(tasks, ((1,), (0,), (1,)), ("deadline",), (1, 0, 0, 2, 1, 1))

    def test_whole_deadline_ties_go_to_the_smallest_task(self):
        tasks = ((2, 7, 9), (2, 7, 9), (1, 6, 9))
        self.assert_schedule(tasks, ((1,), (1,), (2,)), ("whole deadline",), (None, 0, 0, 1, 1, 2))

    def test_a_job_that_has_not_run_yet_is_not_kept(self):
        tasks = ((1, 9, 9), (1, 9, 9), (2, 9, 9))
        self.assert_schedule(tasks, ((1,), (0,), (0,)), ("whole", (0, 1, 2)), (1, 0, 2, 2))

    def test_several_unfinished_jobs_of_one_task(self):
        tasks = ((3, 5, 1), (2, 9, 9))
        self.assert_schedule(tasks, ((0, 1, 2), (0,)), ("fixed", (1, 0)), (1, 1) + (0,) * 9)
        self.assert_schedule(tasks, ((0, 1, 2), (0,)), ("deadline",), (0,) * 9 + (1, 1))
        self.assert_same(simulate_runs(tasks, ((0, 1, 2), (0,)), ("deadline",)),
                         ((0, 3, 0, 0), (3, 6, 0, 1), (6, 9, 0, 2), (9, 11, 1, 0)))

    def test_the_first_unfinished_job_of_a_task_counts(self):
        # Job 0 of task 0 is late already; its due time and not that of job 1 is compared.
        tasks = ((4, 2, 2), (1, 7, 9))
        self.assert_schedule(tasks, ((0, 2), (0,)), ("deadline",), (0, 0, 0, 0, 0, 0, 0, 0, 1))
        self.assert_schedule(((4, 9, 2), (1, 7, 9)), ((0, 2), (3,)), ("deadline",), (0, 0, 0, 0, 1, 0, 0, 0, 0))

    def test_idle_units_in_between(self):
        tasks = ((1, 3, 5), (2, 3, 5))
        for policy in all_policies((1, 0)):
            self.assert_schedule(tasks, ((1, 8), (4, 11)), policy,
                                 (None, 0, None, None, 1, 1, None, None, 0, None, None, 1, 1))
            self.assert_same(simulate_runs(tasks, ((1, 8), (4, 11)), policy),
                             ((1, 2, 0, 0), (4, 6, 1, 0), (8, 9, 0, 1), (11, 13, 1, 1)))

    def test_no_job_at_all(self):
        for policy in all_policies((0, 1)):
            self.assert_schedule(PATTERN_TASKS, ((), ()), policy, ())
            self.assert_same(simulate_runs(PATTERN_TASKS, ((), ()), policy), ())

    def test_a_job_may_run_in_the_unit_of_its_arrival_and_never_before(self):
        self.assert_schedule(((1, 1, 1),), ((0, 1, 3, 100),), ("deadline",), (0, 0, None, 0) + (None,) * 96 + (0,))

    def test_greatest_amounts(self):
        tasks = ((20, 60, 1),)
        self.assert_schedule(tasks, (tuple(range(61, 101)),), ("slack",), (None,) * 61 + (0,) * 800)

    def test_runs_part_jobs_of_one_task(self):
        tasks = ((2, 9, 2), (1, 9, 9))
        self.assert_same(simulate_runs(tasks, ((0, 2, 4), (3,)), ("fixed", (0, 1))),
                         ((0, 2, 0, 0), (2, 4, 0, 1), (4, 6, 0, 2), (6, 7, 1, 0)))
        self.assert_same(simulate_runs(tasks, ((0, 2, 4), (3,)), ("fixed", (1, 0))),
                         ((0, 2, 0, 0), (2, 3, 0, 1), (3, 4, 1, 0), (4, 5, 0, 1), (5, 7, 0, 2)))


class OracleTest(Checks, unittest.TestCase):
    def test_random_patterns_under_all_policies(self):
        rng = rng_of(2)
        for _ in range(400):
            tasks = random_tasks(rng, most=6, most_cost=5)
            pattern = random_pattern(rng, tasks)
            for policy in all_policies(random_order(rng, tasks)):
                schedule = self.assert_steady(simulate, tasks, pattern, policy)
                self.assert_same(schedule, oracle_schedule(tasks, pattern, policy))
                runs = self.assert_steady(simulate_runs, tasks, pattern, policy)
                self.assert_same(runs, oracle_runs(tasks, pattern, policy))
                self.assert_runs_tell_the_schedule(runs, schedule)

    def test_crowded_patterns_with_few_due_times(self):
        rng = rng_of(3)
        for _ in range(300):
            tasks = random_tasks(rng, most=5, most_cost=3, most_gap=3, most_deadline=4)
            pattern = random_pattern(rng, tasks, most=8, spread=2)
            for policy in all_policies(random_order(rng, tasks)):
                self.assert_same(simulate(tasks, pattern, policy), oracle_schedule(tasks, pattern, policy))
                self.assert_same(simulate_runs(tasks, pattern, policy), oracle_runs(tasks, pattern, policy))

    def assert_runs_tell_the_schedule(self, runs, schedule):
        row = [None] * len(schedule)
        for start, stop, task, _ in runs:
            self.assertLess(start, stop)
            row[start:stop] = [task] * (stop - start)
        self.assertEqual(tuple(row), schedule)
        self.assertEqual(list(runs), sorted(runs))


class WrongValueTest(Checks, unittest.TestCase):
    def test_wrong_arguments(self):
        policies = [(value, errors.BadPolicy()) for value in wrong_policies()]
        wrong = [wrong_tasks(errors), wrong_patterns(errors), policies]
        for call in (simulate, simulate_runs):
            self.assert_wrong_arguments(call, (PATTERN_TASKS, ((0, 5), ()), ("deadline",)), wrong)

    def test_policies_fit_the_number_of_tasks(self):
        three = PATTERN_TASKS + ((1, 1, 1),)
        empty = ((), (), ())
        for call in (simulate, simulate_runs):
            for word in ("fixed", "whole"):
                self.assertEqual(call(three, empty, (word, (2, 0, 1))), ())
                self.assertEqual(call(((1, 1, 1),), ((),), (word, (0,))), ())
                for order in ((0, 1), (0, 1, 1), (0, 1, 3), (1, 2, 3), (0, 1, 2, 3), (0, 0, 0), ()):
                    self.assert_error(errors.BadPolicy(), call, three, empty, (word, order))


if __name__ == "__main__":
    unittest.main()
