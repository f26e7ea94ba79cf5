"""Points 10 and 11: jobs that run on once they have begun."""

import unittest

from eventcore import errors
from eventcore.deadlines import overfull_length
from eventcore.schedules import missed, responses
from eventcore.whole import later_when_shorter, longest_region, whole_overfull, worst_whole_response
from support import (PATTERN_TASKS, Checks, Job, all_policies, hyper, oracle_finishes, oracle_length, random_order,
                     random_pattern, random_tasks, rate, rng_of, run_jobs, wrong_indexes, wrong_orders, wrong_patterns,
                     wrong_policies, wrong_tasks)
from test_deadlines import LATE, LATER, plain_demand, plain_overfull
from test_fixed import ENDLESS, LONG, LONGER

# With the blocking units of the task at the back the least length is 5000 and 5001; without them it is shorter.
BLOCKED = ((14, 60, 41), (3, 60, 55), (12, 60, 20), (20, 60, 60))
BLOCKED_MORE = ((11, 60, 41), (9, 60, 35), (5, 60, 35), (18, 60, 55), (20, 60, 60))


def plain_whole_overfull(tasks, most=5000):
    """Length by length, as point 10 says; None if no length up to most is overfull or blocked."""
    for length in range(most + 1):
        work = plain_demand(tasks, length)
        if work > length:
            return (length, None)
        rows = [(-cost, task) for task, (cost, deadline, _) in enumerate(tasks)
                if deadline > length and work > 0 and work + cost - 1 > length]
        if rows:
            return (length, min(rows)[1])
    return None


def plain_longest_region(tasks, task):
    """Trying all regions from the cost down to 1."""
    cost, deadline, _ = tasks[task]
    for region in range(cost, 0, -1):
        works = [(length, plain_demand(tasks, length)) for length in range(deadline)]
        if not any(work > 0 and work + region - 1 > length for length, work in works):
            return region
    return None


def plain_whole_response(tasks, order, task):
    """(response, number) by running the sequence of point 11, or None."""
    place = order.index(task)
    rows = [tasks[other] for other in order[:place + 1]]
    behind = order[place + 1:]
    blocked = max([tasks[other][0] for other in behind], default=1) - 1
    length = oracle_length(blocked, rows)
    if length is None:
        return None
    start = 1 if blocked else 0
    stop = start + length + (2 * hyper(rows) if hyper(rows) <= 60 else 0)
    jobs = [Job(number, count, time, row[0], row[1]) for number, row in enumerate(rows)
            for count, time in enumerate(range(start, stop, row[2]))]
    if blocked:
        first = min(other for other in behind if tasks[other][0] == blocked + 1)
        jobs.append(Job(len(rows), 0, 0, tasks[first][0], tasks[first][1]))
    run_jobs(jobs, ("whole", tuple(range(len(rows) + 1))))
    times = [job.finish - job.arrival for job in jobs if job.task == place]
    return max(times), times.index(max(times))


class WholeOverfullTest(Checks, unittest.TestCase):
    def test_example(self):
        tasks = ((1, 3, 4), (2, 6, 8), (5, 20, 20))
        answers = [whole_overfull(tasks), longest_region(tasks, 2), worst_whole_response(tasks, (0, 1, 2), 0)]
        self.assert_same(answers, [(3, 2), 3, (5, 0)])

    def test_small_cases(self):
        self.assert_same(whole_overfull(((1, 1, 1),)), None)
        self.assert_same(whole_overfull(((2, 1, 2),)), (1, None))
        self.assert_same(whole_overfull(((20, 20, 20),)), None)
        self.assert_same(whole_overfull(((1, 3, 9), (3, 9, 9))), None)
        self.assert_same(whole_overfull(((1, 3, 9), (4, 9, 9))), (3, 1))
        self.assert_same(whole_overfull(((1, 3, 9), (1, 9, 9), (1, 60, 9))), None)
        # A length that is overfull tells no task, even if a task blocks it.
        self.assert_same(whole_overfull(((4, 3, 9), (5, 9, 9))), (3, None))
        # A task blocks only lengths that are less than its deadline.
        self.assert_same(whole_overfull(((1, 9, 20), (10, 10, 20))), (9, 1))
        self.assert_same(whole_overfull(((1, 10, 20), (9, 10, 20))), None)

    def test_ties_of_the_blocking_task(self):
        self.assert_same(whole_overfull(((1, 3, 9), (4, 9, 20), (4, 9, 20))), (3, 1))
        self.assert_same(whole_overfull(((1, 3, 9), (4, 9, 20), (5, 9, 30))), (3, 2))
        self.assert_same(whole_overfull(((5, 9, 30), (4, 9, 20), (1, 3, 9), (5, 9, 30))), (3, 0))
        self.assert_same(whole_overfull(((5, 9, 30), (6, 9, 30), (1, 3, 9), (6, 9, 30))), (3, 1))
        # The task of the greatest cost of all does not block if its deadline is short.
        self.assert_same(whole_overfull(((1, 6, 30), (5, 6, 30), (2, 9, 30), (2, 20, 30))), (6, 2))

    def test_random_sets(self):
        rng = rng_of(32)
        counts = {}
        for _ in range(1500):
            tasks = random_tasks(rng, most=5, most_cost=6, most_gap=24, most_deadline=40)
            length = oracle_length(0, tasks)
            wanted = plain_whole_overfull(tasks, 400)
            if wanted is None and (length is None or length > 400):
                continue
            self.assert_same(self.assert_steady(whole_overfull, tasks), wanted)
            key = (wanted is None, wanted is not None and wanted[1] is None)
            counts[key] = counts.get(key, 0) + 1
        self.assertEqual(len(counts), 3)
        self.assertGreater(min(counts.values()), 30)

    def test_overfull_just_below_the_bound(self):
        # The L of point 8 is 70, and no deadline reaches that far.
        tasks = ((11, 32, 37), (12, 34, 35), (8, 21, 24))
        self.assertEqual(oracle_length(0, tasks), 70)
        self.assert_same(whole_overfull(tasks), (69, None))
        self.assertEqual(plain_whole_overfull(tasks, 100), (69, None))

    def test_five_thousand_and_beyond(self):
        late, later = [tuple((cost, 60, gap) for cost, _, gap in tasks) for tasks in (LONG, LONGER)]
        self.assert_same(whole_overfull(late), None)
        self.assert_error(errors.TooMany(5000), whole_overfull, later)
        self.assert_error(errors.TooMany(5000), whole_overfull, ENDLESS)
        self.assertEqual(whole_overfull(LATE), plain_whole_overfull(LATE))
        self.assertEqual(whole_overfull(LATER), plain_whole_overfull(LATER))
        # A blocked length is found although no overfull one is in reach.
        tasks = ((1, 12, 55),) + ENDLESS[1:]
        self.assert_same(whole_overfull(tasks), plain_whole_overfull(tasks))

    def test_an_overfull_length_of_five_thousand(self):
        # All deadlines are equal, so nothing is blocked: no length below them has a demand.
        self.assert_same(whole_overfull(((6, 40, 57), (9, 40, 10))), (5000, None))
        self.assert_same(whole_overfull(((4, 32, 46), (11, 32, 12))), (5000, None))
        self.assert_error(errors.TooMany(5000), whole_overfull, ((2, 51, 3), (17, 51, 50)))
        self.assert_error(errors.TooMany(5000), whole_overfull, ((16, 43, 37), (15, 43, 28), (2, 43, 58)))
        for tasks in (((14, 60, 34), (16, 60, 57), (16, 60, 52)),
                      ((6, 60, 27), (17, 60, 37), (3, 60, 23), (10, 60, 53))):
            wanted = plain_whole_overfull(tasks)
            if wanted is None:
                self.assert_error(errors.TooMany(5000), whole_overfull, tasks)
            else:
                self.assert_same(whole_overfull(tasks), wanted)

    def test_what_it_says_about_patterns(self):
        rng = rng_of(34)
        counts = [0, 0, 0]
        for _ in range(600):
            tasks = random_tasks(rng, most=4, most_cost=4, most_gap=12, most_deadline=24)
            found = whole_overfull(tasks)
            if found is None:
                counts[0] += 1
                pattern = random_pattern(rng, tasks, most=8, spread=3)
                self.assertEqual(missed(tasks, pattern, ("whole deadline",)), ())
            elif found[1] is not None:
                counts[1] += 1
                length, blocking = found
                pattern = tuple((0,) if task == blocking else tuple(range(1, length + 1 - deadline + 1, gap))
                                for task, (_, deadline, gap) in enumerate(tasks))
                for policy in (("whole deadline",), ("whole", random_order(rng, tasks))):
                    self.assertNotEqual(missed(tasks, pattern, policy), ())
            else:
                counts[2] += 1
        self.assertGreater(min(counts), 30)


class LongestRegionTest(Checks, unittest.TestCase):
    def test_small_cases(self):
        self.assert_same(longest_region(((5, 9, 9),), 0), 5)
        self.assert_same(longest_region(((2, 1, 9),), 0), None)
        tasks = ((1, 3, 9), (6, 20, 20))
        self.assert_same([longest_region(tasks, task) for task in (0, 1)], [1, 3])
        self.assert_same(longest_region(((3, 3, 9), (6, 20, 20)), 1), 1)
        self.assert_same(longest_region(((1, 3, 9), (3, 20, 20)), 1), 3)
        self.assert_same(longest_region(((1, 3, 9), (2, 20, 20)), 1), 2)
        # The length that is the deadline itself does not count.
        self.assert_same(longest_region(((1, 9, 20), (5, 5, 20), (3, 9, 20)), 2), 1)
        self.assert_same(longest_region(((1, 9, 20), (3, 9, 20)), 1), 3)
        self.assert_same(longest_region(((9, 9, 20), (3, 13, 20)), 1), 1)

    def test_random_sets(self):
        rng = rng_of(35)
        counts = {}
        for _ in range(600):
            tasks = random_tasks(rng, most=4, most_cost=8, most_gap=30, most_deadline=40)
            length = oracle_length(0, tasks)
            overfull = plain_overfull(tasks, 400)
            if overfull is None and (length is None or length > 400):
                continue
            whole = True
            for task in range(len(tasks)):
                wanted = None if overfull is not None else plain_longest_region(tasks, task)
                self.assert_same(self.assert_steady(longest_region, tasks, task), wanted)
                whole = whole and wanted == tasks[task][0]
                key = "none" if wanted is None else "cost" if wanted == tasks[task][0] else "less"
                counts[key] = counts.get(key, 0) + 1
            self.assertEqual(whole_overfull(tasks) is None, whole)
        self.assertEqual(len(counts), 3)
        self.assertGreater(min(counts.values()), 20)

    def test_five_thousand_and_beyond(self):
        self.assert_same(longest_region(LONG, 0), 15)
        self.assert_same(longest_region(LATE, 0), None)
        for tasks in (LONGER, ENDLESS, LATER):
            self.assert_error(errors.TooMany(5000), overfull_length, tasks)
            for task in range(len(tasks)):
                self.assert_error(errors.TooMany(5000), longest_region, tasks, task)
        self.assert_error(errors.BadTask(), longest_region, ENDLESS, 4)


class WorstWholeResponseTest(Checks, unittest.TestCase):
    def test_small_cases(self):
        self.assert_same(worst_whole_response(((3, 9, 9),), (0,), 0), (3, 0))
        self.assert_same(worst_whole_response(((3, 9, 3),), (0,), 0), (3, 0))
        self.assert_same(worst_whole_response(((3, 9, 2),), (0,), 0), None)
        tasks = ((2, 9, 9), (4, 9, 20), (7, 9, 30))
        for order, wanted in (((0, 1, 2), [(8, 0), (12, 0), (13, 0)]), ((2, 1, 0), [(13, 0), (12, 0), (10, 0)])):
            self.assert_same([worst_whole_response(tasks, order, task) for task in (0, 1, 2)], wanted)

    def test_a_job_in_front_that_arrives_when_it_could_begin_goes_first(self):
        self.assert_same(worst_whole_response(((2, 9, 4), (1, 9, 20), (3, 9, 30)), (0, 1, 2), 1), (7, 0))
        self.assert_same(worst_whole_response(((2, 9, 4), (1, 9, 20), (2, 9, 30)), (0, 1, 2), 1), (4, 0))

    def test_a_cost_of_one_behind_blocks_nothing(self):
        self.assert_same(worst_whole_response(((3, 9, 9), (1, 9, 9)), (0, 1), 0), (3, 0))
        self.assert_same(worst_whole_response(((3, 9, 9), (2, 9, 9)), (0, 1), 0), (4, 0))
        # With a sum of exactly 1 there is a length as long as nothing blocks.
        self.assert_same(worst_whole_response(((3, 9, 3), (1, 9, 9)), (0, 1), 0), (3, 0))
        self.assert_same(worst_whole_response(((3, 9, 3), (2, 9, 9)), (0, 1), 0), None)
        self.assert_same(worst_whole_response(((2, 9, 4), (1, 9, 2), (1, 9, 9)), (0, 1, 2), 1), (3, 0))
        self.assert_same(worst_whole_response(((2, 9, 4), (1, 9, 2), (2, 9, 9)), (0, 1, 2), 1), None)
        self.assert_same(worst_whole_response(((2, 9, 4), (1, 9, 2), (2, 9, 9)), (0, 1, 2), 0), (3, 0))
        self.assert_same(worst_whole_response(((2, 9, 4), (1, 9, 2), (20, 9, 1)), (0, 1, 2), 2), None)

    def test_random_sets(self):
        rng = rng_of(36)
        counts = {}
        for _ in range(500):
            tasks = random_tasks(rng, most=4, most_cost=5, most_gap=14)
            order = random_order(rng, tasks)
            for task in order:
                wanted = plain_whole_response(tasks, order, task)
                self.assert_same(self.assert_steady(worst_whole_response, tasks, order, task), wanted)
                blocked = any(tasks[other][0] > 1 for other in order[order.index(task) + 1:])
                key = (blocked, wanted is None or wanted[1] > 0, wanted is None)
                counts[key] = counts.get(key, 0) + 1
        self.assertEqual(len(counts), 6)

    def test_later_jobs_may_have_it(self):
        for tasks, task, wanted in ((((2, 9, 9), (5, 9, 12), (3, 9, 9)), 2, (11, 1)),
                                    (((2, 9, 5), (6, 9, 14), (2, 9, 13)), 2, (15, 3)),
                                    (((6, 9, 9), (1, 9, 13), (1, 9, 4)), 2, (10, 6)),
                                    (((6, 9, 14), (5, 9, 10), (6, 9, 3)), 1, (17, 1)),
                                    (((4, 9, 13), (2, 9, 3), (5, 9, 11)), 1, (11, 3)),
                                    (((5, 9, 12), (4, 9, 7), (6, 9, 4)), 1, (17, 4))):
            self.assert_same(worst_whole_response(tasks, (0, 1, 2), task), wanted)
            self.assertEqual(plain_whole_response(tasks, (0, 1, 2), task), wanted)

    def test_no_pattern_has_a_greater_response(self):
        rng = rng_of(37)
        reached = 0
        for _ in range(600):
            tasks = random_tasks(rng, most=4, most_cost=4)
            order = random_order(rng, tasks)
            pattern = random_pattern(rng, tasks, most=8, spread=3)
            for task, times in enumerate(responses(tasks, pattern, ("whole", order))):
                worst = worst_whole_response(tasks, order, task)
                if worst is not None and times:
                    self.assertLessEqual(max(times), worst[0])
                    reached += max(times) == worst[0]
        self.assertGreater(reached, 50)

    def test_five_thousand_and_beyond(self):
        order = (0, 1, 2, 3)
        self.assertEqual(oracle_length(19, BLOCKED[:3]), 5000)
        self.assertEqual(worst_whole_response(BLOCKED, order, 2), plain_whole_response(BLOCKED, order, 2))
        self.assertEqual(oracle_length(19, BLOCKED_MORE[:4]), 5001)
        self.assert_error(errors.TooMany(5000), worst_whole_response, BLOCKED_MORE, (0, 1, 2, 3, 4), 3)
        self.assertIsNotNone(worst_whole_response(BLOCKED_MORE, (0, 1, 2, 3, 4), 2))
        self.assertIsNotNone(worst_whole_response(BLOCKED_MORE[:4], order, 3))
        # Without tasks behind nothing blocks.
        self.assertEqual(worst_whole_response(LONG, order, 3), plain_whole_response(LONG, order, 3))
        self.assert_error(errors.TooMany(5000), worst_whole_response, LONGER, (0, 1, 2, 3, 4, 5), 5)
        self.assert_error(errors.TooMany(5000), worst_whole_response, ENDLESS, order, 3)
        self.assertLess(rate(BLOCKED_MORE[:4]), 1)


class LaterWhenShorterTest(Checks, unittest.TestCase):
    def test_small_cases(self):
        # If task 0 ends a unit earlier, the long job begins before the urgent one arrives.
        tasks = ((2, 20, 20), (2, 4, 20), (6, 30, 30))
        pattern = ((0,), (2,), (1,))
        self.assert_same(later_when_shorter(tasks, pattern, ("whole", (0, 1, 2))), (0,))
        self.assert_same(later_when_shorter(tasks, pattern, ("whole deadline",)), (0,))
        self.assert_same(later_when_shorter(tasks, pattern, ("fixed", (0, 1, 2))), ())
        self.assert_same(later_when_shorter(tasks, pattern, ("deadline",)), ())
        self.assert_same(later_when_shorter(tasks, ((), (), ()), ("whole", (0, 1, 2))), ())
        # A cost of 1 cannot be made less.
        tasks = ((1, 20, 20), (2, 4, 20), (6, 30, 30))
        self.assert_same(later_when_shorter(tasks, ((1,), (2,), (1,)), ("whole", (0, 1, 2))), ())

    def test_slack(self):
        # The second job of task 0 has less slack than the end of the first one, and now it is begun earlier.
        tasks, pattern = ((5, 20, 1), (1, 15, 9)), ((0, 1), (4,))
        self.assert_same(later_when_shorter(tasks, pattern, ("slack",)), (0,))
        rng = rng_of(39)
        found = 0
        for _ in range(500):
            tasks = random_tasks(rng, most=3, most_cost=8, most_gap=2)
            pattern = random_pattern(rng, tasks, most=4, spread=3)
            wanted = self.plain(tasks, pattern, ("slack",))
            self.assert_same(later_when_shorter(tasks, pattern, ("slack",)), wanted)
            found += wanted != ()
        self.assertGreater(found, 0)

    def plain(self, tasks, pattern, policy):
        before = oracle_finishes(tasks, pattern, policy)
        found = []
        for task, (cost, deadline, gap) in enumerate(tasks):
            if cost >= 2:
                rows = tasks[:task] + ((cost - 1, deadline, gap),) + tasks[task + 1:]
                after = oracle_finishes(rows, pattern, policy)
                if any(one < other for row, others in zip(before, after) for one, other in zip(row, others)):
                    found.append(task)
        return tuple(found)

    def test_random_patterns(self):
        rng = rng_of(38)
        counts = {}
        for _ in range(250):
            tasks = random_tasks(rng, most=5, most_cost=5)
            pattern = random_pattern(rng, tasks)
            for policy in all_policies(random_order(rng, tasks)):
                wanted = self.plain(tasks, pattern, policy)
                self.assert_same(self.assert_steady(later_when_shorter, tasks, pattern, policy), wanted)
                if policy[0] in ("fixed", "deadline"):
                    self.assertEqual(wanted, ())
                elif wanted:
                    counts[policy[0]] = counts.get(policy[0], 0) + 1
                    counts[len(wanted)] = counts.get(len(wanted), 0) + 1
        for key in ("whole", "whole deadline", 1, 2):
            self.assertGreater(counts[key], 5)


class WrongValueTest(Checks, unittest.TestCase):
    def test_wrong_arguments(self):
        tasks = ((1, 4, 4), (2, 6, 6))
        places = [(value, errors.BadTask()) for value in wrong_indexes(2)]
        self.assert_wrong_arguments(whole_overfull, (tasks,), [wrong_tasks(errors)])
        self.assert_wrong_arguments(longest_region, (tasks, 0), [wrong_tasks(errors), places])
        self.assert_wrong_arguments(worst_whole_response, (tasks, (0, 1), 0), [
            wrong_tasks(errors), [(value, errors.BadOrder()) for value in wrong_orders()], places])
        self.assert_wrong_arguments(later_when_shorter, (PATTERN_TASKS, ((0, 5), ()), ("deadline",)), [
            wrong_tasks(errors), wrong_patterns(errors), [(value, errors.BadPolicy()) for value in wrong_policies()]])

    def test_too_many_comes_last(self):
        self.assert_error(errors.BadTask(), worst_whole_response, ENDLESS, (0, 1, 2, 3), 4)
        self.assert_error(errors.BadOrder(), worst_whole_response, ENDLESS, (0, 1, 2, 4), 4)


if __name__ == "__main__":
    unittest.main()
