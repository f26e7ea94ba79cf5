"""Points 18 and 19: units that block jobs, the worst blocking, and the bound of response times under "stack"."""

import unittest

from eventcore import errors
from eventcore.blocking import blocked_units, blockers, locked_response_bound, worst_blocking
from eventcore.locks import simulate_locked
from support import (ANY_VALUES, LOCKED_TASKS, Checks, locked_as_tasks, oracle_length, plain_ceiling, random_locked,
                     random_pattern, random_ring_locked, rate, rng_of, run_locked_jobs, wrong_indexes, wrong_locked,
                     wrong_patterns)
from test_fixed import ENDLESS, LONG
from test_locks import CROSSED, PROTOCOLS
from test_whole import BLOCKED, BLOCKED_MORE


def plain_blocking(tasks, task):
    """The worst blocking as point 18 says."""
    lengths = [length for _, _, sections in tasks[task + 1:] for _, length, lock in sections
               if plain_ceiling(tasks, lock) <= task]
    return max(lengths, default=1) - 1


def plain_bound(tasks, task):
    """The bound of point 19, each least number by counting up to it; 5001 for a least L that is greater than 5000."""
    blocked = plain_blocking(tasks, task)
    rows = locked_as_tasks(tasks)[:task + 1]
    length = oracle_length(blocked, rows, most=5000)
    if length is None or length > 5000:
        return length
    cost, _, gap = rows[task]
    bounds = []
    for number in range((length + gap - 1) // gap):
        time = 1
        while time != blocked + (number + 1) * cost + sum(one * ((time + each - 1) // each)
                                                          for one, _, each in rows[:task]):
            time += 1
        bounds.append(time - number * gap)
    return max(bounds)


def worst_section(tasks, task):
    """(lower task, start) of the first section that gives the worst blocking, which is greater than 0."""
    for lower in range(task + 1, len(tasks)):
        for start, length, lock in tasks[lower][2]:
            if length - 1 == plain_blocking(tasks, task) and plain_ceiling(tasks, lock) <= task:
                return lower, start
    return None


class BlockedUnitsTest(Checks, unittest.TestCase):
    def test_example(self):
        tasks = ((2, 20, ((1, 1, 0),)), (3, 20, ()), (5, 20, ((0, 4, 0),)))
        answers = [blocked_units(tasks, ((3,), (2,), (0,)), "plain"), worst_blocking(tasks, 1),
                   locked_response_bound(tasks, 0)]
        self.assert_same(answers, [((4,), (0,), (0,)), 3, 5])

    def test_small_cases(self):
        tasks = ((2, 20, ((1, 1, 0),)), (3, 20, ()), (5, 20, ((0, 4, 0),)))
        pattern = ((3,), (2,), (0,))
        self.assert_same(blockers(tasks, pattern, "plain"), (((1, 2),), ((),), ((),)))
        self.assert_same(blocked_units(tasks, pattern, "inherit"), ((2,), (2,), (0,)))
        self.assert_same(blockers(tasks, pattern, "inherit"), (((2,),), ((2,),), ((),)))
        self.assert_same(blocked_units(tasks, pattern, "stack"), ((1,), (2,), (0,)))
        self.assert_same(blocked_units(tasks, ((), (), ()), "stack"), ((), (), ()))
        self.assert_same(blockers(tasks, ((), (), ()), "stack"), ((), (), ()))

    def test_only_the_first_unfinished_job_of_a_task(self):
        # The second job of task 0 arrives while the first one is still kept waiting.
        tasks = ((1, 2, ((0, 1, 0),)), (6, 20, ((0, 5, 0),)))
        self.assert_same(simulate_locked(tasks, ((1, 3, 5), (0,)), "plain")[0], (1, 1, 1, 1, 1, 0, 0, 0, 1))
        self.assert_same(blocked_units(tasks, ((1, 3, 5), (0,)), "plain"), ((4, 0, 0), (0,)))
        self.assert_same(blockers(tasks, ((1, 3, 5), (0,)), "plain"), (((1,), (), ()), ((),)))

    def test_runs_that_get_stuck(self):
        tasks = (*CROSSED, (2, 3, ()))
        pattern = ((1, 30), (0,), (1, 8))
        for protocol in ("plain", "inherit"):
            # Task 2 runs while the jobs of tasks 0 and 1 are stuck; the second job of task 0 is never the first one.
            self.assert_same(blocked_units(tasks, pattern, protocol), ((4, 0), (4,), (0, 0)))
            self.assert_same(blockers(tasks, pattern, protocol), (((2,), ()), ((2,),), ((), ())))

    def test_random_patterns(self):
        rng = rng_of(180)
        counts = {}
        for number in range(700):
            tasks = random_ring_locked(rng) if number % 2 else random_locked(rng, most=5)
            pattern = random_pattern(rng, locked_as_tasks(tasks), most=3, spread=8)
            for protocol in PROTOCOLS:
                jobs, _ = run_locked_jobs(tasks, pattern, protocol)
                rows = [[job for job in jobs if job.task == task] for task in range(len(tasks))]
                wanted = tuple(tuple(len(job.blocked) for job in row) for row in rows)
                self.assert_same(self.assert_steady(blocked_units, tasks, pattern, protocol), wanted)
                names = tuple(tuple(tuple(sorted(set(job.blocked))) for job in row) for row in rows)
                self.assert_same(self.assert_steady(blockers, tasks, pattern, protocol), names)
                for job in jobs:
                    self.check_what_is_said(tasks, protocol, job)
                    key = (protocol, min(2, len(set(job.blocked))))
                    counts[key] = counts.get(key, 0) + 1
        for key in (("plain", 2), ("inherit", 2), ("ceiling", 1), ("stack", 1)):
            self.assertGreater(counts[key], 5)

    def check_what_is_said(self, tasks, protocol, job):
        """What point 18 says of every job under "ceiling" and "stack"."""
        if protocol in ("ceiling", "stack"):
            self.assertLessEqual(len(set(job.blocked)), 1)
            self.assertLessEqual(len(job.blocked), worst_blocking(tasks, job.task))
        if protocol == "stack" and job.task == 0:
            self.assertEqual(job.finish, job.first_unit + job.cost)

    def test_under_stack_all_blocking_units_come_first(self):
        rng = rng_of(181)
        some = 0
        for _ in range(300):
            tasks = random_locked(rng, most=4)
            pattern = random_pattern(rng, locked_as_tasks(tasks), most=2, spread=8)
            jobs, ran = run_locked_jobs(tasks, pattern, "stack")
            self.assertEqual(simulate_locked(tasks, pattern, "stack")[0], ran)
            for job in jobs:
                later = [task for task in ran[job.first_unit:job.finish] if task is not None and task > job.task]
                self.assertEqual(later, [])
                some += len(job.blocked)
        self.assertGreater(some, 50)

    def test_wrong_arguments(self):
        protocols = [(value, errors.BadProtocol()) for value in ANY_VALUES]
        for call in (blocked_units, blockers):
            self.assert_wrong_arguments(call, (LOCKED_TASKS, ((0, 5), ()), "plain"), [
                wrong_locked(errors), wrong_patterns(errors), protocols])


class WorstBlockingTest(Checks, unittest.TestCase):
    def test_small_cases(self):
        tasks = ((5, 9, ((0, 1, 0),)), (5, 9, ((0, 2, 1),)), (5, 9, ((0, 4, 1),)), (5, 9, ((0, 3, 0), (3, 2, 2))))
        self.assert_same([worst_blocking(tasks, task) for task in range(4)], [2, 3, 2, 0])
        # A section of one unit blocks nothing, and a lock that only lower tasks use does not either.
        self.assert_same(worst_blocking(((2, 9, ((0, 1, 0),)), (2, 9, ((0, 1, 0),))), 0), 0)
        self.assert_same(worst_blocking(((2, 9, ()), (5, 9, ((0, 5, 0),)), (5, 9, ((0, 5, 0),))), 0), 0)
        self.assert_same(worst_blocking(((2, 9, ()), (5, 9, ((0, 5, 0),)), (5, 9, ((0, 5, 0),))), 1), 4)
        # The sections of the task itself and of higher ones do not count.
        self.assert_same(worst_blocking(((20, 9, ((0, 20, 0),)), (2, 9, ((0, 2, 0),))), 0), 1)
        self.assert_same(worst_blocking(((20, 9, ((0, 20, 0),)), (2, 9, ((0, 2, 0),))), 1), 0)

    def test_random_tasks_and_the_told_pattern(self):
        rng = rng_of(182)
        counts = {}
        for number in range(800):
            tasks = random_ring_locked(rng) if number % 2 else random_locked(rng, most=5, most_cost=9)
            for task in range(len(tasks)):
                wanted = plain_blocking(tasks, task)
                self.assert_same(self.assert_steady(worst_blocking, tasks, task), wanted)
                counts[min(wanted, 3)] = counts.get(min(wanted, 3), 0) + 1
                if wanted > 0:
                    lower, start = worst_section(tasks, task)
                    pattern = tuple((0,) if one == lower else (start + 1,) if one == task else ()
                                    for one in range(len(tasks)))
                    self.assertEqual(blocked_units(tasks, pattern, "stack")[task], (wanted,))
                    self.assertEqual(blockers(tasks, pattern, "stack")[task], ((lower,),))
        self.assertGreater(min(counts.values()), 100)

    def test_wrong_arguments(self):
        places = [(value, errors.BadTask()) for value in wrong_indexes(2)]
        for call in (worst_blocking, locked_response_bound):
            self.assert_wrong_arguments(call, (LOCKED_TASKS, 0), [wrong_locked(errors), places])


class ResponseBoundTest(Checks, unittest.TestCase):
    def test_random_tasks(self):
        rng = rng_of(190)
        counts = {}
        for _ in range(500):
            tasks = random_locked(rng, most=4, most_gap=20)
            for task in range(len(tasks)):
                wanted = plain_bound(tasks, task)
                if wanted is not None and wanted > 5000:
                    self.assert_error(errors.TooMany(5000), locked_response_bound, tasks, task)
                    continue
                self.assert_same(self.assert_steady(locked_response_bound, tasks, task), wanted)
                key = (wanted is None, plain_blocking(tasks, task) > 0)
                counts[key] = counts.get(key, 0) + 1
        self.assertEqual(len(counts), 4)
        self.assertGreater(min(counts.values()), 20)

    def test_small_cases(self):
        self.assert_same(locked_response_bound(((3, 3, ()),), 0), 3)
        self.assert_same(locked_response_bound(((4, 3, ()),), 0), None)
        # With a sum of exactly 1 there is an L only if nothing blocks.
        self.assert_same(locked_response_bound(((2, 4, ()), (2, 4, ())), 1), 4)
        self.assert_same(locked_response_bound(((4, 4, ((0, 1, 0),)), (2, 9, ((0, 1, 0),))), 0), 4)
        self.assert_same(locked_response_bound(((4, 4, ((0, 1, 0),)), (2, 9, ((0, 2, 0),))), 0), None)
        # A later job of the busy period has the greatest one.
        tasks = ((3, 6, ()), (4, 10, ()), (2, 60, ()))
        self.assert_same([locked_response_bound(tasks, task) for task in range(3)],
                         [plain_bound(tasks, task) for task in range(3)])
        self.assert_same(locked_response_bound(((26 // 2, 35, ()), (20, 33, ())), 1), plain_bound(
            ((13, 35, ()), (20, 33, ())), 1))

    def test_no_response_exceeds_it_and_it_is_attained(self):
        rng = rng_of(191)
        counts = {}
        for _ in range(700):
            tasks = random_locked(rng, most=4, most_cost=4, most_gap=18)
            rows = locked_as_tasks(tasks)
            for task in range(len(tasks)):
                bound = locked_response_bound(tasks, task)
                if bound is None or rate(rows[:task + 1]) >= 1:
                    continue
                blocked = worst_blocking(tasks, task)
                stop = oracle_length(blocked, rows[:task + 1]) + 40
                begin = 0
                pattern = [()] * len(tasks)
                if blocked > 0:
                    lower, start = worst_section(tasks, task)
                    pattern[lower] = (0,)
                    begin = start + 1
                for one in range(task + 1):
                    pattern[one] = tuple(range(begin, begin + stop, tasks[one][1]))
                jobs, _ = run_locked_jobs(tasks, tuple(pattern), "stack")
                worst = max(job.finish - job.arrival for job in jobs if job.task == task)
                self.assertLessEqual(worst, bound)
                ends = any(start + length == tasks[task][0] for start, length, _ in tasks[task][2])
                if not ends:
                    self.assertEqual(worst, bound, (tasks, task))
                key = (blocked > 0, ends)
                counts[key] = counts.get(key, 0) + 1
        self.assertEqual(len(counts), 4)
        self.assertGreater(min(counts.values()), 20)

    def test_random_patterns_stay_below_it(self):
        rng = rng_of(192)
        for _ in range(300):
            tasks = random_locked(rng, most=4, most_cost=4, most_gap=14)
            pattern = random_pattern(rng, locked_as_tasks(tasks), most=6, spread=3)
            jobs, _ = run_locked_jobs(tasks, pattern, "stack")
            for task in range(len(tasks)):
                bound = locked_response_bound(tasks, task)
                if bound is not None:
                    self.assertTrue(all(job.finish - job.arrival <= bound for job in jobs if job.task == task))

    def locked(self, tasks, shared=None, length=0):
        """Locked tasks with these costs and gaps; with `shared`, the last one and that one share a lock."""
        rows = [(cost, gap, ()) for cost, _, gap in tasks]
        if shared is not None:
            rows[shared] = (*rows[shared][:2], ((0, 1, 0),))
            rows[-1] = (*rows[-1][:2], ((0, length, 0),))
        return tuple(rows)

    def test_five_thousand_and_beyond(self):
        tasks = self.locked(BLOCKED, 2, 20)
        self.assertEqual(oracle_length(19, BLOCKED[:3]), 5000)
        self.assertEqual(worst_blocking(tasks, 2), 19)
        self.assert_same(locked_response_bound(tasks, 2), plain_bound(tasks, 2))
        tasks = self.locked(BLOCKED_MORE, 3, 20)
        self.assertEqual(oracle_length(19, BLOCKED_MORE[:4]), 5001)
        self.assert_error(errors.TooMany(5000), locked_response_bound, tasks, 3)
        self.assert_same(locked_response_bound(tasks, 2), plain_bound(tasks, 2))
        # Without a blocking section of that length it is less.
        self.assert_same(locked_response_bound(self.locked(BLOCKED_MORE), 3), plain_bound(self.locked(BLOCKED_MORE), 3))
        tasks = self.locked(LONG)
        self.assertEqual(oracle_length(0, LONG), 5000)
        self.assert_same(locked_response_bound(tasks, len(tasks) - 1), plain_bound(tasks, len(tasks) - 1))
        tasks = self.locked(ENDLESS)
        self.assert_error(errors.TooMany(5000), locked_response_bound, tasks, len(tasks) - 1)
        # A task that is none comes first.
        self.assert_error(errors.BadTask(), locked_response_bound, tasks, len(tasks))


if __name__ == "__main__":
    unittest.main()
