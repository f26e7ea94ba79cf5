"""Points 8 and 9: demands, worst responses by deadline, least deadlines and first misses."""

import unittest

from eventcore import errors
from eventcore.deadlines import demand, first_miss, least_deadline, overfull_length, worst_by_deadline
from eventcore.schedules import missed, responses
from support import (ANY_VALUES, Checks, Job, hyper, oracle_length, random_pattern, random_tasks, rate, rng_of,
                     run_jobs, wrong_indexes, wrong_lengths, wrong_tasks)
from test_fixed import ENDLESS, LONG, LONGER

# The sum of cost divided by gap is greater than 1; the least overfull lengths are 5000 and 5001.
LATE = ((2, 18, 22), (10, 39, 32), (18, 55, 43), (9, 49, 50))
LATER = ((15, 50, 55), (1, 20, 21), (6, 29, 29), (9, 23, 19))
# The L of point 8 is 300 and 301.
BUSY = ((3, 60, 31), (15, 60, 25), (6, 60, 20))
BUSIER = ((3, 60, 16), (9, 60, 51), (11, 60, 34), (13, 60, 43))
EARLIEST = ("deadline",)


def plain_demand(tasks, length):
    """Job by job."""
    return sum(cost for cost, deadline, gap in tasks for time in range(0, length + 1, gap) if time + deadline <= length)


def plain_overfull(tasks, most=5000):
    for length in range(most + 1):
        if plain_demand(tasks, length) > length:
            return length
    return None


def plain_by_deadline(tasks, task):
    """The response of the job at each offset from 0 to L - 1, by running the jobs, or None."""
    length = oracle_length(0, tasks)
    if length is None:
        return None
    times = []
    for offset in range(length):
        jobs = []
        for other, (cost, deadline, gap) in enumerate(tasks):
            start = offset % gap if other == task else 0
            for number, time in enumerate(range(start, offset + length + 1, gap)):
                jobs.append(Job(other, number, time, cost, deadline))
        job = [job for job in jobs if job.task == task and job.arrival == offset][0]
        run_jobs(jobs, EARLIEST, until=offset + length + 1)
        times.append(job.finish - offset)
    return times


def plain_first_miss(tasks, offsets, horizon):
    """The missed job with the smallest due time up to the horizon, and that of the smallest task, or None."""
    jobs = []
    for task, (cost, deadline, gap) in enumerate(tasks):
        for number, time in enumerate(range(offsets[task], horizon + 1, gap)):
            jobs.append(Job(task, number, time, cost, deadline))
    run_jobs(jobs, EARLIEST, until=horizon + 1)
    late = [(job.due, job.task, job.number) for job in jobs
            if job.due <= horizon and (job.finish is None or job.finish > job.due)]
    return min(late)[1:] if late else None


class DemandTest(Checks, unittest.TestCase):
    def test_small_cases(self):
        tasks = ((2, 3, 4), (1, 6, 5))
        self.assert_same([demand(tasks, length) for length in range(13)], [0, 0, 0, 2, 2, 2, 3, 5, 5, 5, 5, 8, 8])

    def test_both_ends(self):
        self.assert_same(demand(((20, 1, 1),) * 6, 0), 0)
        self.assert_same(demand(((20, 1, 1),) * 6, 1), 120)
        self.assert_same(demand(((20, 1, 1),) * 6, 5000), 600000)
        self.assert_same(demand(((3, 60, 60),), 5000), 249)
        self.assert_error(errors.BadLength(), demand, ((1, 1, 1),), 5001)
        self.assert_error(errors.BadLength(), demand, ((1, 1, 1),), -1)

    def test_random_sets(self):
        rng = rng_of(22)
        for _ in range(400):
            tasks = random_tasks(rng, most=6, most_cost=20, most_gap=60, most_deadline=60)
            for length in (rng.randint(0, 5000), rng.randint(0, 100), rng.choice(tasks)[1], rng.choice(tasks)[1] - 1):
                self.assert_same(self.assert_steady(demand, tasks, length), plain_demand(tasks, length))


class OverfullTest(Checks, unittest.TestCase):
    def test_example(self):
        tasks = ((2, 2, 4), (2, 3, 6))
        self.assert_same([overfull_length(tasks), least_deadline(tasks, 1), first_miss(tasks, (0, 0))], [3, 4, (1, 0)])

    def test_small_cases(self):
        self.assert_same(overfull_length(((1, 1, 1),)), None)
        self.assert_same(overfull_length(((2, 1, 60),)), 1)
        self.assert_same(overfull_length(((2, 2, 1),)), 3)
        self.assert_same(overfull_length(((2, 60, 1),)), 119)
        self.assert_same(overfull_length(((20, 19, 60),)), 19)
        self.assert_same(overfull_length(((20, 20, 60),)), None)

    def test_random_sets(self):
        rng = rng_of(23)
        counts = {}
        for _ in range(800):
            tasks = random_tasks(rng, most=5, most_cost=4, most_gap=14, most_deadline=20)
            length = oracle_length(0, tasks)
            wanted = plain_overfull(tasks, 3000 if length is None else hyper(tasks) + 20)
            if wanted is None and length is None:
                continue
            self.assert_same(self.assert_steady(overfull_length, tasks), wanted)
            if wanted is not None and length is not None:
                self.assertLessEqual(wanted, length)
            key = (wanted is None, length is None)
            counts[key] = counts.get(key, 0) + 1
        self.assertGreater(min(counts.values()), 30)
        self.assertEqual(len(counts), 3)

    def test_overfull_just_below_the_bound(self):
        # The least overfull length is the one before the L of point 8.
        for tasks, wanted in ((((13, 12, 60),), 12), (((6, 6, 60), (7, 12, 60)), 12),
                              (((4, 4, 10), (17, 28, 60)), 28), (((11, 32, 37), (12, 34, 35), (8, 21, 24)), 69),
                              (((3, 19, 31), (12, 32, 40), (10, 52, 60), (3, 12, 50), (9, 16, 32)), 112)):
            self.assert_same(overfull_length(tasks), wanted)
            self.assertEqual((plain_overfull(tasks), oracle_length(0, tasks)), (wanted, wanted + 1))

    def test_five_thousand_and_beyond(self):
        self.assert_same(overfull_length(LATE), 5000)
        self.assert_error(errors.TooMany(5000), overfull_length, LATER)
        self.assertEqual((plain_overfull(LATE), plain_overfull(LATER), plain_overfull(LATER, 5001)), (5000, None, 5001))
        self.assert_same(overfull_length(LONG), None)
        self.assert_error(errors.TooMany(5000), overfull_length, LONGER)
        self.assert_error(errors.TooMany(5000), overfull_length, ENDLESS)
        tasks = ENDLESS[:3] + ((2, 3, 52), (2, 3, 60))
        self.assert_same(overfull_length(tasks), 3)
        for tasks in (tuple((cost, 19, gap) for cost, _, gap in ENDLESS), ENDLESS[:1] + ((11, 24, 25),) + ENDLESS[2:]):
            wanted = plain_overfull(tasks)
            if wanted is None:
                self.assert_error(errors.TooMany(5000), overfull_length, tasks)
            else:
                self.assert_same(overfull_length(tasks), wanted)

    def test_what_it_says_about_patterns(self):
        rng = rng_of(25)
        for _ in range(200):
            tasks = random_tasks(rng, most=4, most_cost=3)
            length = overfull_length(tasks)
            if length is None:
                pattern = random_pattern(rng, tasks, most=8, spread=3)
                self.assertEqual(missed(tasks, pattern, EARLIEST), ())
            elif length < 60:
                pattern = tuple(tuple(range(0, length - deadline + 1, gap)) for _, deadline, gap in tasks)
                if sum(map(len, pattern)) <= 40:
                    for policy in (EARLIEST, ("slack",), ("whole deadline",), ("whole", tuple(range(len(tasks))))):
                        self.assertNotEqual(missed(tasks, pattern, policy), ())


class WorstByDeadlineTest(Checks, unittest.TestCase):
    def assert_worst(self, tasks, task):
        """The response is the greatest one, the offset one that gives it; returns whether offset 0 gives less."""
        times = plain_by_deadline(tasks, task)
        found = self.assert_steady(worst_by_deadline, tasks, task)
        if times is None:
            self.assertIsNone(found)
            return None
        response, offset = found
        self.assert_same((type(found), response), (tuple, max(times)))
        self.assertTrue(type(offset) is int and 0 <= offset < len(times))
        self.assertEqual(times[offset], response)
        return times[0] < response

    def test_small_cases(self):
        self.assert_same(worst_by_deadline(((3, 60, 5),), 0), (3, 0))
        self.assert_same(worst_by_deadline(((3, 1, 3),), 0), (3, 0))
        self.assert_same(worst_by_deadline(((4, 60, 3),), 0), None)
        # The job that arrives at 1 waits for one unit, as the other job is due earlier.
        self.assert_same(worst_by_deadline(((2, 4, 4), (2, 4, 4)), 0), (3, 1))
        self.assert_same(worst_by_deadline(((2, 4, 4), (2, 4, 4)), 1), (4, 0))
        self.assert_same(worst_by_deadline(((2, 4, 4), (3, 4, 4)), 1), None)

    def test_random_sets(self):
        rng = rng_of(26)
        counts = {}
        for _ in range(350):
            tasks = random_tasks(rng, most=4, most_cost=4, most_gap=12, most_deadline=16)
            if oracle_length(0, tasks) is not None and oracle_length(0, tasks) > 60:
                continue
            for task in range(len(tasks)):
                moved = self.assert_worst(tasks, task)
                counts[moved] = counts.get(moved, 0) + 1
        self.assertEqual(len(counts), 3)
        self.assertGreater(min(counts.values()), 10)

    def test_equal_tasks(self):
        # Equal due times go to the smaller task.
        rng = rng_of(27)
        for _ in range(60):
            row = (rng.randint(1, 3), rng.randint(2, 12), rng.randint(6, 12))
            tasks = (row,) * rng.randint(1, 3)
            for task in range(len(tasks)):
                self.assert_worst(tasks, task)

    def test_no_pattern_has_a_greater_response(self):
        rng = rng_of(28)
        reached = 0
        for _ in range(500):
            tasks = random_tasks(rng, most=4, most_cost=4)
            pattern = random_pattern(rng, tasks, most=8, spread=3)
            for task, times in enumerate(responses(tasks, pattern, EARLIEST)):
                worst = worst_by_deadline(tasks, task)
                if worst is not None and times:
                    self.assertLessEqual(max(times), worst[0])
                    reached += max(times) == worst[0]
        self.assertGreater(reached, 50)

    def test_three_hundred_and_beyond(self):
        self.assertEqual((oracle_length(0, BUSY), oracle_length(0, BUSIER)), (300, 301))
        for task in range(3):
            self.assert_worst(BUSY, task)
            self.assert_error(errors.TooMany(300), worst_by_deadline, BUSIER, task)
        self.assert_error(errors.TooMany(300), worst_by_deadline, ENDLESS, 0)
        self.assert_same(worst_by_deadline(ENDLESS + ((1, 60, 60),), 0), None)
        self.assert_error(errors.BadTask(), worst_by_deadline, ENDLESS, 4)

    def test_the_l_is_that_of_all_tasks(self):
        self.assert_error(errors.TooMany(300), worst_by_deadline, BUSIER[::-1], 0)
        self.assert_same(worst_by_deadline(((1, 1, 10), (20, 60, 10)), 0), None)


class LeastDeadlineTest(Checks, unittest.TestCase):
    def test_small_cases(self):
        self.assert_same(least_deadline(((3, 60, 5),), 0), 3)
        self.assert_same(least_deadline(((1, 60, 1),), 0), 1)
        self.assert_same(least_deadline(((20, 1, 60),), 0), 20)
        self.assert_same(least_deadline(((2, 1, 1),), 0), None)
        self.assert_same(least_deadline(((1, 1, 1), (1, 1, 60)), 1), None)
        self.assert_same(least_deadline(((2, 1, 9), (1, 1, 60)), 1), None)

    def test_both_ends(self):
        self.assert_same(least_deadline(((1, 2, 2), (20, 20, 60)), 1), 39)
        self.assert_same(least_deadline(((20, 20, 60), (20, 40, 60), (20, 1, 60)), 2), 60)
        self.assert_same(least_deadline(((20, 20, 60), (20, 39, 60), (20, 1, 60)), 2), None)
        self.assert_same(least_deadline(((1, 60, 2), (20, 20, 60)), 1), 20)
        self.assert_same(least_deadline(((20, 20, 60), (20, 40, 60), (19, 1, 60), (1, 1, 60)), 3), None)
        # A deadline of 61 would do.
        tasks = ((16, 16, 37), (7, 28, 28), (15, 1, 60))
        self.assert_same(least_deadline(tasks, 2), None)
        self.assertEqual([plain_overfull(tasks[:2] + ((15, deadline, 60),), 106) for deadline in (60, 61)], [60, None])

    def test_random_sets(self):
        rng = rng_of(29)
        counts = {}
        for _ in range(250):
            tasks = random_tasks(rng, most=4, most_cost=3, most_gap=10, most_deadline=20)
            task = rng.randrange(len(tasks))
            wanted = None
            if rate(tasks) <= 1:
                for deadline in range(1, 61):
                    rows = list(tasks)
                    rows[task] = (tasks[task][0], deadline, tasks[task][2])
                    if plain_overfull(rows, oracle_length(0, tasks)) is None:
                        wanted = deadline
                        break
            self.assert_same(self.assert_steady(least_deadline, tasks, task), wanted)
            key = (wanted is None, rate(tasks) > 1)
            counts[key] = counts.get(key, 0) + 1
        self.assertEqual(len(counts), 3)

    def test_the_deadline_itself_does_not_matter(self):
        tasks = ((2, 5, 6), (3, 9, 9), (1, 7, 12))
        for deadline in (1, 7, 30, 60):
            self.assert_same(least_deadline(((2, deadline, 6),) + tasks[1:], 0), least_deadline(tasks, 0))

    def test_five_thousand_and_beyond(self):
        self.assertIsNotNone(least_deadline(LONG, 0))
        self.assert_error(errors.TooMany(5000), least_deadline, LONGER, 0)
        self.assert_error(errors.TooMany(5000), least_deadline, ENDLESS, 3)
        self.assert_error(errors.TooMany(5000), least_deadline, tuple((c, 1, g) for c, _, g in ENDLESS), 3)
        self.assert_same(least_deadline(ENDLESS + ((1, 60, 60),), 0), None)
        self.assert_same(least_deadline(LATER, 0), None)
        self.assert_error(errors.BadTask(), least_deadline, LONGER, 6)


class FirstMissTest(Checks, unittest.TestCase):
    def test_small_cases(self):
        tasks = ((2, 2, 4), (2, 3, 6))
        self.assert_same(first_miss(tasks, (0, 2)), (1, 1))
        self.assert_same(first_miss(((2, 2, 4), (2, 2, 4)), (0, 2)), None)
        self.assert_same(first_miss(((2, 2, 4), (2, 2, 4)), (0, 0)), (1, 0))
        self.assert_same(first_miss(((2, 2, 4), (2, 2, 4)), (60, 59)), (0, 0))
        self.assert_same(first_miss(((1, 1, 1),), (60,)), None)
        self.assert_same(first_miss(((2, 1, 3),), (60,)), (0, 0))
        self.assert_same(first_miss(((2, 4, 1),), (0,)), (0, 3))

    def test_the_smallest_due_time_and_then_the_smallest_task(self):
        self.assert_same(first_miss(((3, 2, 9), (2, 2, 9)), (0, 0)), (0, 0))
        self.assert_same(first_miss(((3, 3, 9), (2, 2, 9)), (0, 0)), (0, 0))
        self.assert_same(first_miss(((2, 5, 9), (3, 2, 9)), (0, 0)), (1, 0))
        self.assert_same(first_miss(((1, 9, 9), (3, 5, 9), (3, 5, 9)), (0, 2, 2)), (2, 0))
        # Both jobs that are due at 3 are late.
        self.assert_same(first_miss(((3, 3, 20), (3, 3, 20), (1, 1, 20)), (0, 0, 0)), (0, 0))

    def test_offsets_at_both_ends(self):
        tasks = ((3, 4, 8), (3, 4, 8))
        self.assert_same(first_miss(tasks, (0, 60)), None)
        self.assert_same(first_miss(tasks, (0, 58)), None)
        self.assert_same(first_miss(tasks, (0, 57)), (1, 0))
        self.assert_same(first_miss(tasks, (60, 2)), None)
        for offsets in ((0, 61), (61, 0), (-1, 0), (0,), (0, 0, 0), (0, True), (False, 0), [0, 0], (0, None), "00"):
            self.assert_error(errors.BadOffsets(), first_miss, tasks, offsets)

    def test_random_sets(self):
        rng = rng_of(30)
        counts = {}
        for _ in range(500):
            tasks = random_tasks(rng, most=4, most_cost=3, most_gap=8, most_deadline=12)
            if hyper(tasks) > 240:
                continue
            offsets = tuple(rng.choice((0, rng.randint(0, 10), rng.randint(0, 60))) for _ in tasks)
            horizon = max(offsets) + 3 * hyper(tasks) + 30
            wanted = plain_first_miss(tasks, offsets, horizon)
            while wanted is None and rate(tasks) > 1:
                horizon *= 2
                wanted = plain_first_miss(tasks, offsets, horizon)
            self.assert_same(self.assert_steady(first_miss, tasks, offsets), wanted)
            key = (wanted is None, rate(tasks) > 1)
            counts[key] = counts.get(key, 0) + 1
        self.assertEqual(len(counts), 3)
        self.assertGreater(min(counts.values()), 10)

    def test_misses_in_the_second_round(self):
        # The first miss comes more than the least common multiple of the gaps behind the last first arrival.
        for tasks, offsets, wanted in ((((12, 21, 24), (1, 2, 2)), (0, 2), (0, 1)),
                                       (((6, 21, 24), (3, 3, 4)), (0, 52), (1, 10)),
                                       (((4, 22, 24), (2, 4, 6), (1, 1, 2)), (0, 0, 2), (1, 7)),
                                       (((1, 1, 2), (10, 17, 24)), (53, 48), (1, 1)),
                                       (((1, 1, 2), (6, 11, 12)), (55, 5), (1, 5))):
            self.assert_same(first_miss(tasks, offsets), wanted)
            self.assertEqual(plain_first_miss(tasks, offsets, 200), wanted)
            due = offsets[wanted[0]] + wanted[1] * tasks[wanted[0]][2] + tasks[wanted[0]][1]
            self.assertGreater(due, max(offsets) + hyper(tasks))

    def test_far_behind_the_first_arrivals(self):
        # The sum of cost divided by gap is 241/240: the work falls behind by one unit in 240.
        tasks = ((15, 60, 16), (1, 60, 15))
        due = plain_overfull(tasks, 20000)
        task, number = first_miss(tasks, (0, 0))
        self.assertEqual(number * tasks[task][2] + tasks[task][1], due)
        self.assertGreater(due, 10000)
        task, number = first_miss(tasks, (60, 0))
        self.assertGreater(number, 500)

    def test_two_hundred_and_forty_and_beyond(self):
        self.assert_same(first_miss(((1, 16, 16), (1, 15, 15)), (0, 0)), None)
        self.assert_same(first_miss(((1, 48, 48), (1, 5, 5)), (3, 60)), None)
        self.assert_same(first_miss(((1, 25, 25), (1, 9, 9)), (0, 0)), None)
        self.assert_same(first_miss(((1, 21, 21), (1, 33, 33)), (0, 0)), None)
        self.assert_error(errors.TooMany(240), first_miss, ((1, 49, 49), (1, 5, 5)), (0, 0))
        self.assert_error(errors.TooMany(240), first_miss, ((1, 60, 60), (1, 7, 7)), (0, 0))
        self.assert_error(errors.TooMany(240), first_miss, ((20, 1, 60), (1, 7, 7)), (0, 0))
        self.assert_error(errors.BadOffsets(), first_miss, ((1, 60, 60), (1, 7, 7)), (0, 61))


class WrongValueTest(Checks, unittest.TestCase):
    def test_wrong_arguments(self):
        tasks = ((1, 4, 4), (2, 6, 6))
        places = [(value, errors.BadTask()) for value in wrong_indexes(2)]
        self.assert_wrong_arguments(demand, (tasks, 5), [
            wrong_tasks(errors), [(value, errors.BadLength()) for value in wrong_lengths(5000)]])
        self.assert_wrong_arguments(overfull_length, (tasks,), [wrong_tasks(errors)])
        self.assert_wrong_arguments(worst_by_deadline, (tasks, 0), [wrong_tasks(errors), places])
        self.assert_wrong_arguments(least_deadline, (tasks, 0), [wrong_tasks(errors), places])
        offsets = [(value, errors.BadOffsets()) for value in ANY_VALUES if not (
            isinstance(value, tuple) and value == (0, 1))]
        self.assert_wrong_arguments(first_miss, (tasks, (0, 0)), [wrong_tasks(errors), offsets])


if __name__ == "__main__":
    unittest.main()
