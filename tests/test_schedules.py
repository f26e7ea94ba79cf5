"""Point 4: schedules, finish times, response times, missed jobs and idle units."""

import unittest

from eventcore import errors
from eventcore.schedules import finishes, idle_units, missed, responses, shows_schedule
from eventcore.simulation import simulate
from support import (ANY_VALUES, PATTERN_TASKS, SCHEDULE_PATTERN, Checks, all_policies, oracle_finishes, plain_schedule, random_order,
                     random_pattern, random_tasks, rng_of, same, wrong_patterns, wrong_policies, wrong_schedules,
                     wrong_tasks)


class ShowsScheduleTest(Checks, unittest.TestCase):
    def test_schedules_of_all_policies(self):
        rng = rng_of(4)
        for _ in range(150):
            tasks = random_tasks(rng, most=6)
            pattern = random_pattern(rng, tasks, most=3)
            for policy in all_policies(random_order(rng, tasks)):
                schedule = simulate(tasks, pattern, policy)
                self.assertIs(self.assert_steady(shows_schedule, tasks, pattern, schedule), True)
                self.assertIs(shows_schedule(tasks, pattern, list(schedule)), False)
                self.assertIs(shows_schedule(tasks, pattern, schedule + (None,)), False)
                self.assertIs(shows_schedule(tasks, pattern, schedule + (0,)), False)
                if schedule:
                    self.assertIs(shows_schedule(tasks, pattern, schedule[:-1]), False)

    def test_each_change_of_one_unit(self):
        rng = rng_of(5)
        accepted = 0
        for _ in range(60):
            tasks = random_tasks(rng, most=3, most_cost=3)
            pattern = random_pattern(rng, tasks, most=3)
            schedule = simulate(tasks, pattern, rng.choice(all_policies(random_order(rng, tasks))))
            for unit in range(len(schedule)):
                for entry in [None, *range(-1, len(tasks) + 1), True, False, "0", (), [], {}]:
                    changed = schedule[:unit] + (entry,) + schedule[unit + 1:]
                    wanted = plain_schedule(tasks, pattern, changed)
                    self.assertIs(shows_schedule(tasks, pattern, changed), wanted)
                    accepted += wanted and changed != schedule

    def test_exchanged_and_moved_units(self):
        rng = rng_of(6)
        accepted = rejected = 0
        for _ in range(400):
            tasks = random_tasks(rng, most=3, most_cost=3)
            pattern = random_pattern(rng, tasks, most=3)
            row = list(simulate(tasks, pattern, ("deadline",))) + [None] * rng.randint(0, 1)
            if len(row) < 2:
                continue
            one, other = rng.sample(range(len(row)), 2)
            row[one], row[other] = row[other], row[one]
            wanted = plain_schedule(tasks, pattern, tuple(row))
            self.assertIs(shows_schedule(tasks, pattern, tuple(row)), wanted)
            accepted += wanted
            rejected += not wanted
        self.assertGreater(accepted, 50)
        self.assertGreater(rejected, 50)

    def test_small_cases(self):
        tasks = ((2, 5, 3), (1, 5, 5))
        pattern = ((0, 3), (1,))
        for value in ((0, 0, 1, 0, 0), (0, 1, 0, 0, 0), (0, None, 0, 1, 0, 0), (None, None, 1, 0, 0, 0, 0),
                      (0, 0, None, 0, 0, None, None, 1), (None,) * 50 + (0, 0, 0, 1, 0)):
            self.assertIs(shows_schedule(tasks, pattern, value), True)
        for value in ((0, 0, 0, 0, 1), (1, 0, 0, 0, 0), (0, 0, 1, 0), (0, 0, 1, 0, 0, 0), (0, 0, 1, 0, 0, 1),
                      (0, 0, 1, 0, 0, None), (0, 0, None, 0, 0), (0, 0, None, 0, 1), (0, 0, 1, 0, 1), (), (None,),
                      (0, 0, 1, 0, 2), (0, 0, -1, 0, 0), (False, 0, 1, 0, 0), (0, 0, True, 0, 0), (0, 0, "1", 0, 0),
                      (0, 0, (1,), 0, 0), (0, 0, [1], 0, 0)):
            self.assertIs(shows_schedule(tasks, pattern, value), False)

    def test_no_job_at_all(self):
        self.assertIs(shows_schedule(PATTERN_TASKS, ((), ()), ()), True)
        for value in ((None,), (0,), [], None, "", {}, False, 0):
            self.assertIs(shows_schedule(PATTERN_TASKS, ((), ()), value), False)

    def test_values_of_other_kinds(self):
        pattern = ((0, 5), (2,))
        for value in ANY_VALUES:
            self.assertIs(self.assert_steady(shows_schedule, PATTERN_TASKS, pattern, value), False)
            self.assertIs(shows_schedule(PATTERN_TASKS, ((), ()), value), same(value, ()))

    def test_wrong_arguments(self):
        self.assert_wrong_arguments(shows_schedule, (PATTERN_TASKS, ((0,), ()), (0, 0)), [
            wrong_tasks(errors), wrong_patterns(errors)])


class FinishesTest(Checks, unittest.TestCase):
    def test_small_cases(self):
        tasks = ((2, 5, 3), (1, 5, 5))
        self.assert_same(finishes(tasks, ((0, 3), (1,)), (0, 1, 0, 0, None, 0)), ((3, 6), (2,)))
        self.assert_same(finishes(tasks, ((0, 3), (1,)), (None, None, 1, 0, 0, 0, 0)), ((5, 7), (3,)))
        self.assert_same(finishes(tasks, ((0, 3), ()), (0, 0, None, 0, 0)), ((2, 5), ()))
        self.assert_same(finishes(tasks, ((), ()), ()), ((), ()))

    def test_schedules_of_policies(self):
        rng = rng_of(7)
        for _ in range(150):
            tasks = random_tasks(rng, most=6)
            pattern = random_pattern(rng, tasks)
            for policy in all_policies(random_order(rng, tasks)):
                schedule = simulate(tasks, pattern, policy)
                self.assert_same(self.assert_steady(finishes, tasks, pattern, schedule),
                                 oracle_finishes(tasks, pattern, policy))

    def test_wrong_schedules(self):
        pattern = SCHEDULE_PATTERN
        self.assert_same(finishes(PATTERN_TASKS, pattern, (0, 0, 1, None, None, 0, 0)), ((2, 7), (3,)))
        for value, error in wrong_schedules(errors):
            self.assert_error(error, finishes, PATTERN_TASKS, pattern, value)

    def test_wrong_arguments(self):
        self.assert_wrong_arguments(finishes, (PATTERN_TASKS, ((0,), ()), (0, 0)), [
            wrong_tasks(errors), wrong_patterns(errors), [(value, errors.BadSchedule()) for value in ANY_VALUES]])


class ResponsesTest(Checks, unittest.TestCase):
    def test_small_cases(self):
        tasks = ((2, 3, 3), (2, 4, 9))
        pattern = ((0, 3), (1,))
        self.assert_same(responses(tasks, pattern, ("fixed", (0, 1))), ((2, 2), (5,)))
        self.assert_same(missed(tasks, pattern, ("fixed", (0, 1))), ((1, 0),))
        self.assert_same(responses(tasks, pattern, ("fixed", (1, 0))), ((4, 3), (2,)))
        self.assert_same(missed(tasks, pattern, ("fixed", (1, 0))), ((0, 0),))
        self.assert_same(responses(tasks, pattern, ("deadline",)), ((2, 3), (3,)))
        self.assert_same(missed(tasks, pattern, ("deadline",)), ())
        self.assert_same(responses(tasks, ((), ()), ("deadline",)), ((), ()))
        self.assert_same(missed(tasks, ((), ()), ("slack",)), ())

    def test_a_job_that_finishes_at_its_due_time_is_not_missed(self):
        self.assert_same(missed(((2, 2, 3),), ((0, 3),), ("deadline",)), ())
        self.assert_same(missed(((2, 1, 3),), ((0, 3),), ("deadline",)), ((0, 0), (0, 1)))
        self.assert_same(missed(((2, 3, 1),), ((0, 1, 2),), ("deadline",)), ((0, 2),))

    def test_random_patterns(self):
        rng = rng_of(8)
        some = 0
        for _ in range(250):
            tasks = random_tasks(rng, most=6)
            pattern = random_pattern(rng, tasks)
            for policy in all_policies(random_order(rng, tasks)):
                ends = oracle_finishes(tasks, pattern, policy)
                wanted = tuple(tuple(end - time for time, end in zip(*rows)) for rows in zip(pattern, ends))
                self.assert_same(self.assert_steady(responses, tasks, pattern, policy), wanted)
                late = tuple((task, number) for task, row in enumerate(wanted) for number, time in enumerate(row)
                             if time > tasks[task][1])
                self.assert_same(self.assert_steady(missed, tasks, pattern, policy), late)
                some += len(late)
        self.assertGreater(some, 100)

    def test_wrong_arguments(self):
        policies = [(value, errors.BadPolicy()) for value in wrong_policies()]
        wrong = [wrong_tasks(errors), wrong_patterns(errors), policies]
        for call in (responses, missed):
            self.assert_wrong_arguments(call, (PATTERN_TASKS, ((0, 5), ()), ("deadline",)), wrong)


class IdleUnitsTest(Checks, unittest.TestCase):
    def test_small_cases(self):
        tasks = ((1, 3, 5), (2, 3, 5))
        self.assert_same(idle_units(tasks, ((1, 8), (4, 11))), (0, 2, 3, 6, 7, 9, 10))
        self.assert_same(idle_units(tasks, ((0, 5), (0, 5))), (3, 4))
        self.assert_same(idle_units(tasks, ((3,), (2,))), (0, 1))
        self.assert_same(idle_units(tasks, ((0,), (0,))), ())
        self.assert_same(idle_units(tasks, ((), ())), ())

    def test_they_are_the_same_for_every_policy(self):
        rng = rng_of(9)
        for _ in range(150):
            tasks = random_tasks(rng, most=6, most_cost=4)
            pattern = random_pattern(rng, tasks, spread=9)
            found = self.assert_steady(idle_units, tasks, pattern)
            for policy in all_policies(random_order(rng, tasks)):
                schedule = simulate(tasks, pattern, policy)
                self.assert_same(found, tuple(unit for unit, task in enumerate(schedule) if task is None))

    def test_wrong_arguments(self):
        wrong = [wrong_tasks(errors), wrong_patterns(errors)]
        self.assert_wrong_arguments(idle_units, (PATTERN_TASKS, ((0,), ())), wrong)


if __name__ == "__main__":
    unittest.main()
