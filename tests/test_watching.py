"""Point 43: prefixes of schedules, and whether all jobs can still be in time."""

import unittest

from eventcore import errors
from eventcore.watching import doom, first_doom
from support import (ANY_VALUES, PATTERN_TASKS, SCHEDULE_PATTERN, Checks, all_policies, bent_schedule, jobs_of,
                     oracle_schedule, random_order, random_pattern, random_schedule, random_tasks, rng_of, same,
                     wrong_patterns, wrong_schedules, wrong_tasks)


def run_prefix(tasks, pattern, prefix):
    """The jobs after the prefix, each with its finish and what it still needs; None if the value is not a prefix."""
    if type(prefix) is not tuple:
        return None
    jobs = jobs_of(tasks, pattern)
    for unit, entry in enumerate(prefix):
        if entry is None:
            continue
        there = [job for job in jobs if same(job.task, entry) and job.left and job.arrival <= unit]
        if not there:
            return None
        there[0].left -= 1
        if there[0].left == 0:
            there[0].finish = unit + 1
    return jobs


def plain_doom(tasks, pattern, prefix):
    """Point 43, job by job and window by window."""
    jobs = run_prefix(tasks, pattern, prefix)
    late = sorted((job.finish, job.task, job.number) for job in jobs if job.finish is not None and job.finish > job.due)
    if late:
        return ("late", *late[0][1:])
    rows = [(max(job.arrival, len(prefix)), job.left, job.due) for job in jobs if job.left]
    windows = []
    for first in {row[0] for row in rows}:
        for last in {row[2] for row in rows}:
            inside = [left for arrival, left, due in rows if arrival >= first and due <= last]
            if inside and sum(inside) > last - first:
                windows.append((first, last))
    return ("full", *min(windows)) if windows else None


def can_go_on(tasks, pattern, prefix):
    """Whether some way to go on leaves no job late, by trying all of them; for few small jobs."""
    jobs = run_prefix(tasks, pattern, prefix)
    if any(job.finish is not None and job.finish > job.due for job in jobs):
        return False
    known = {}

    def fits(time, left):
        if not any(left):
            return True
        if any(need and max(time, job.arrival) + need > job.due for need, job in zip(left, jobs)):
            return False
        if (time, left) not in known:
            ready = [place for place, job in enumerate(jobs) if left[place] and job.arrival <= time
                     and not any(left[other] and jobs[other].task == job.task for other in range(place))]
            known[time, left] = any(fits(time + 1, left[:place] + (left[place] - 1,) + left[place + 1:])
                                    for place in ready) or fits(time + 1, left)
        return known[time, left]

    return fits(len(prefix), tuple(job.left for job in jobs))


def some_prefix(rng, tasks, pattern):
    units = random_schedule(rng, tasks, pattern, rng.choice((0, 0.1)))
    if rng.random() < 0.5:
        units = oracle_schedule(tasks, pattern, rng.choice(all_policies(random_order(rng, tasks))))
    return (units + (None,) * rng.choice((0, 0, 3, 30)))[:rng.randint(0, len(units) + 3)]


class DoomTest(Checks, unittest.TestCase):
    def test_example(self):
        tasks, pattern = ((2, 5, 5), (1, 4, 3)), ((0,), (1, 4))
        answers = [doom(tasks, pattern, (None,) * 4), first_doom(tasks, pattern, (None, None, None, 0, 0, 1, 1))]
        self.assert_same(answers, [("full", 4, 5), 3])

    def test_random_prefixes(self):
        rng = rng_of(430)
        counts = {}
        for _ in range(700):
            tasks = random_tasks(rng, most=4, most_cost=4, most_deadline=rng.choice((8, 20, 40)))
            pattern = random_pattern(rng, tasks, most=3)
            prefix = some_prefix(rng, tasks, pattern)
            wanted = plain_doom(tasks, pattern, prefix)
            self.assert_same(self.assert_steady(doom, tasks, pattern, prefix), wanted)
            key = None if wanted is None else wanted[0]
            counts[key] = counts.get(key, 0) + 1
        self.assertGreater(min(counts[key] for key in (None, "late", "full")), 60)

    def test_whether_a_prefix_can_go_on(self):
        rng = rng_of(431)
        counts = [0, 0]
        for _ in range(400):
            tasks = random_tasks(rng, most=3, most_cost=3, most_deadline=rng.choice((6, 12)))
            pattern = random_pattern(rng, tasks, most=2, spread=3)
            prefix = some_prefix(rng, tasks, pattern)
            wanted = can_go_on(tasks, pattern, prefix)
            self.assertEqual(doom(tasks, pattern, prefix) is None, wanted, (tasks, pattern, prefix))
            counts[wanted] += 1
        self.assertGreater(min(counts), 80)

    def test_many_unfinished_jobs(self):
        rng = rng_of(432)
        counts = [0, 0]
        for _ in range(200):
            tasks = random_tasks(rng, most=6, most_cost=rng.choice((2, 9)), most_gap=12, most_deadline=60)
            pattern = random_pattern(rng, tasks, most=6)
            wanted = plain_doom(tasks, pattern, ())
            self.assert_same(doom(tasks, pattern, ()), wanted)
            counts[wanted is None] += sum(len(row) for row in pattern) > 7
        self.assertGreater(min(counts), 10)
        tasks, pattern = ((20, 60, 1),), (tuple(range(40)),)
        self.assert_same(doom(tasks, pattern, ()), plain_doom(tasks, pattern, ()))
        tasks, pattern = ((1, 60, 1),), (tuple(range(61, 101)),)
        self.assert_same(doom(tasks, pattern, ()), None)
        self.assert_same(doom(tasks, pattern, (None,) * 120), None)
        self.assert_same(doom(tasks, pattern, (None,) * 121), ("full", 121, 121))

    def test_small_cases(self):
        tasks, pattern = ((2, 5, 9), (1, 2, 9)), ((0,), (3,))
        self.assert_same(doom(tasks, pattern, ()), None)
        self.assert_same(doom(tasks, pattern, (0,)), None)
        # A prefix may end with idle units, at any time.
        self.assert_same(doom(tasks, pattern, (None,) * 2), None)
        self.assert_same(doom(tasks, pattern, (None,) * 3), ("full", 3, 5))
        self.assert_same(doom(tasks, pattern, (0, None, None)), None)
        self.assert_same(doom(tasks, pattern, (0, None, None, None)), ("full", 4, 5))
        self.assert_same(doom(tasks, pattern, (0, 0, None, None)), None)
        self.assert_same(doom(tasks, pattern, (0, 0, None, None, None)), ("full", 5, 5))
        self.assert_same(doom(tasks, pattern, (0, 0) + (None,) * 50), ("full", 52, 5))
        self.assert_same(doom(tasks, pattern, (0, 0, None, None, 1)), None)
        self.assert_same(doom(tasks, pattern, (0, 0, None, 1) + (None,) * 500), None)
        # The job that finished first of the late ones.
        self.assert_same(doom(tasks, pattern, (None,) * 4 + (0, 0, 1)), ("late", 0, 0))
        self.assert_same(doom(tasks, pattern, (None,) * 5 + (1, 0, 0)), ("late", 1, 0))
        # A late job goes ahead of a window.
        self.assert_same(doom(tasks, pattern, (None,) * 5 + (1,)), ("late", 1, 0))
        self.assert_same(doom(tasks, pattern, (None,) * 5 + (0,)), ("full", 6, 5))
        # The window of a job that has not arrived.
        self.assert_same(doom(((5, 4, 9),), ((50, 70),), (None,) * 20), ("full", 50, 54))
        self.assert_same(doom(((5, 4, 9),), ((50, 70),), (None,) * 51), ("full", 51, 54))
        self.assert_same(doom(((5, 4, 9),), ((50, 70),), (None,) * 50 + (0,) * 5), ("late", 0, 0))
        self.assert_same(doom(((5, 5, 9),), ((50, 70),), (None,) * 50 + (0,) * 4), None)
        self.assert_same(doom(((1, 1, 1),), ((),), ()), None)
        # A finished job makes no window.
        self.assert_same(doom(((1, 60, 9), (10, 2, 9)), ((0,), (10,)), (0, None, None)), ("full", 10, 12))
        self.assert_same(doom(((1, 60, 9), (10, 2, 9)), ((0,), (10,)), (None,) * 3), ("full", 3, 12))
        # The second job of a task is late, the first one is not.
        self.assert_same(doom(((2, 3, 1),), ((0, 1, 2),), (0,) * 6), ("late", 0, 2))
        self.assert_same(doom(((2, 3, 1),), ((0, 1, 2),), (0,) * 5), ("full", 5, 5))
        self.assert_same(doom(((2, 3, 1),), ((0, 1, 2),), (0,)), ("full", 1, 5))
        self.assert_same(doom(((2, 3, 1),), ((0, 1, 2),), ()), ("full", 0, 5))

    def test_values_that_are_no_prefixes(self):
        rng = rng_of(433)
        counts = [0, 0]
        for _ in range(300):
            tasks = random_tasks(rng, most=3, most_cost=3)
            pattern = random_pattern(rng, tasks, most=2)
            prefix = bent_schedule(rng, some_prefix(rng, tasks, pattern))
            good = run_prefix(tasks, pattern, prefix) is not None
            if good:
                self.assert_same(doom(tasks, pattern, prefix), plain_doom(tasks, pattern, prefix))
            else:
                self.assert_error(errors.BadPrefix(), doom, tasks, pattern, prefix)
            counts[good] += 1
        self.assertGreater(min(counts), 50)

    def test_wrong_arguments(self):
        bad = [value for value in ANY_VALUES if not any(same(value, good) for good in ((), (0,), (None,)))]
        bad += [(1,), (None, 1), (0, 0, 0), (0, 0, 1, 1), (0, 0, 1, "?"), (0, 2), (0, -1), (0, True), (False,), [0, 0],
                (0, 0, None, None, 0), (0, ()), (0, "0")]
        wrong = [wrong_tasks(errors), wrong_patterns(errors), [(value, errors.BadPrefix()) for value in bad]]
        self.assert_wrong_arguments(doom, (PATTERN_TASKS, SCHEDULE_PATTERN, (0, 0, 1)), wrong)


class FirstDoomTest(Checks, unittest.TestCase):
    def plain(self, tasks, pattern, schedule):
        for many in range(len(schedule) + 1):
            if plain_doom(tasks, pattern, schedule[:many]) is not None:
                return many
        return None

    def test_random_schedules(self):
        rng = rng_of(434)
        counts = {}
        for _ in range(400):
            tasks = random_tasks(rng, most=4, most_cost=3, most_deadline=rng.choice((8, 20, 40)))
            pattern = random_pattern(rng, tasks, most=3)
            schedule = random_schedule(rng, tasks, pattern, rng.choice((0, 0.1, 0.4)))
            if rng.random() < 0.3:
                schedule = oracle_schedule(tasks, pattern, ("deadline",))
            wanted = self.plain(tasks, pattern, schedule)
            self.assert_same(self.assert_steady(first_doom, tasks, pattern, schedule), wanted)
            late = any(job.finish > job.due for job in run_prefix(tasks, pattern, schedule))
            self.assertEqual(wanted is not None, late)
            key = None if wanted is None else min(wanted, 1)
            counts[key] = counts.get(key, 0) + 1
        for key in (None, 0, 1):
            self.assertGreater(counts[key], 30, counts)

    def test_small_cases(self):
        # Earliest deadlines miss only what is lost from the beginning.
        self.assert_same(first_doom(((3, 2, 9),), ((5,),), (None,) * 5 + (0, 0, 0)), 0)
        self.assert_same(first_doom(((3, 3, 9),), ((5,),), (None,) * 5 + (0, 0, 0)), None)
        self.assert_same(first_doom(((3, 3, 9),), ((5,),), (None,) * 6 + (0, 0, 0)), 6)
        self.assert_same(first_doom(((3, 3, 9),), ((5,),), (None,) * 5 + (0, 0, None, 0)), 8)
        self.assert_same(first_doom(((1, 2, 9), (2, 2, 9)), ((1,), (0,)), (1, 0, 1)), 2)
        self.assert_same(first_doom(((1, 2, 9), (2, 2, 9)), ((1,), (0,)), (1, 1, 0)), None)
        self.assert_same(first_doom(((1, 1, 1),), ((),), ()), None)

    def test_wrong_arguments(self):
        wrong = [wrong_tasks(errors), wrong_patterns(errors), wrong_schedules(errors)]
        self.assert_wrong_arguments(first_doom, (PATTERN_TASKS, SCHEDULE_PATTERN, (0, 0, 1, None, None, 0, 0)), wrong)
        self.assert_error(errors.BadSchedule(), first_doom, PATTERN_TASKS, SCHEDULE_PATTERN, (0, 0, 1))


if __name__ == "__main__":
    unittest.main()
