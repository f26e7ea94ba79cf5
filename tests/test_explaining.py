"""Point 41: which policies explain a schedule."""

import unittest
from itertools import permutations

from eventcore import errors
from eventcore.explaining import deadline_choices, explaining_orders, first_breach, forced_pairs
from eventcore.simulation import simulate
from support import (PATTERN_TASKS, SCHEDULE_PATTERN, Checks, all_policies, jobs_of, oracle_schedule, random_order,
                     random_pattern, random_schedule, random_tasks, rng_of, wrong_indexes, wrong_patterns,
                     wrong_policies, wrong_schedules, wrong_tasks)

GOOD = (PATTERN_TASKS, SCHEDULE_PATTERN, (0, 0, 1, None, None, 0, 0))


def states(tasks, pattern, schedule):
    """For each unit of the schedule, the first unfinished job of each task that is there, before the unit."""
    jobs = jobs_of(tasks, pattern)
    for unit, task in enumerate(schedule):
        there = {}
        for job in jobs:
            if job.left and job.arrival <= unit:
                there.setdefault(job.task, job)
        yield unit, task, there
        if task is not None:
            there[task].left -= 1
            there[task].begun = True


def policy_entry(policy, unit, there):
    """The task that the policy runs if these jobs are there."""
    if not there:
        return None
    tasks = sorted(there)
    if policy[0].startswith("whole"):
        begun = [task for task in tasks if there[task].begun]
        if begun:
            return begun[0]
    if policy[0] in ("fixed", "whole"):
        return [task for task in policy[1] if task in there][0]
    if policy[0] == "slack":
        return min(tasks, key=lambda task: (there[task].due - unit - there[task].left, task))
    return min(tasks, key=lambda task: (there[task].due, task))


def plain_breach(tasks, pattern, schedule, policy):
    for unit, task, there in states(tasks, pattern, schedule):
        if policy_entry(policy, unit, there) != task:
            return unit
    return None


def plain_pairs(tasks, pattern, schedule):
    pairs = set()
    for _, task, there in states(tasks, pattern, schedule):
        if task is None and there:
            return None
        pairs.update((task, other) for other in there if other != task)
    return tuple(sorted(pairs))


def some_schedule(rng, tasks, pattern):
    """A free schedule, with and without needless idle units, or that of a policy."""
    kind = rng.randrange(3)
    if kind == 0:
        return random_schedule(rng, tasks, pattern, rng.choice((0, 0.2)))
    if kind == 1:
        return oracle_schedule(tasks, pattern, ("fixed", random_order(rng, tasks)))
    return oracle_schedule(tasks, pattern, rng.choice(all_policies(random_order(rng, tasks))))


class OrdersTest(Checks, unittest.TestCase):
    def test_example(self):
        tasks, pattern, schedule = ((2, 5, 5), (1, 4, 3)), ((0,), (1, 4)), (0, 0, 1, None, 1)
        answers = [forced_pairs(tasks, pattern, schedule), explaining_orders(tasks, pattern, schedule),
                   first_breach(tasks, pattern, schedule, ("fixed", (1, 0))),
                   deadline_choices(tasks, pattern, schedule, 0)]
        self.assert_same(answers, [((0, 1),), ((0, 1),), 1, (1, 5)])

    def test_random_schedules(self):
        rng = rng_of(410)
        counts = {}
        for _ in range(300):
            tasks = random_tasks(rng, most=4, most_cost=3)
            pattern = random_pattern(rng, tasks, most=3)
            schedule = some_schedule(rng, tasks, pattern)
            pairs = self.assert_steady(forced_pairs, tasks, pattern, schedule)
            self.assert_same(pairs, plain_pairs(tasks, pattern, schedule))
            found = self.assert_steady(explaining_orders, tasks, pattern, schedule)
            wanted = tuple(order for order in permutations(range(len(tasks)))
                           if oracle_schedule(tasks, pattern, ("fixed", order)) == schedule)
            self.assert_same(found, wanted)
            key = (pairs is None, len(wanted) == 0, len(wanted) > 1)
            counts[key] = counts.get(key, 0) + 1
        for key in ((True, True, False), (False, True, False), (False, False, False), (False, False, True)):
            self.assertGreater(counts[key], 10, key)

    def test_schedules_of_orders_are_explained(self):
        rng = rng_of(411)
        for _ in range(100):
            tasks = random_tasks(rng, most=6)
            pattern = random_pattern(rng, tasks, most=3)
            order = random_order(rng, tasks)
            self.assertIn(order, explaining_orders(tasks, pattern, simulate(tasks, pattern, ("fixed", order))))

    def test_idle_units(self):
        tasks, pattern = ((1, 5, 5), (2, 5, 5)), ((2,), (2,))
        self.assert_same(forced_pairs(tasks, pattern, (None, None, 0, 1, 1)), ((0, 1),))
        self.assert_same(forced_pairs(tasks, pattern, (None, None, 1, 0, 1)), ((0, 1), (1, 0)))
        self.assert_same(forced_pairs(tasks, pattern, (None, None, 1, None, 0, 1)), None)
        self.assert_same(forced_pairs(tasks, pattern, (None, None, None, 0, 1, 1)), None)
        self.assert_same(explaining_orders(tasks, pattern, (None, None, None, 0, 1, 1)), ())
        self.assert_same(explaining_orders(tasks, pattern, (None, None, 1, 0, 1)), ())
        self.assert_same(explaining_orders(tasks, pattern, (None, None, 1, 1, 0)), ((1, 0),))
        self.assert_same(forced_pairs(tasks, ((), ()), ()), ())
        self.assert_same(explaining_orders(tasks, ((), ()), ()), ((0, 1), (1, 0)))
        # A task does not wait for its own earlier job.
        self.assert_same(forced_pairs(((2, 5, 1),), ((0, 1),), (0, 0, 0, 0)), ())
        # It is the whole time from arrival to finish in which a job waits, begun or not.
        self.assert_same(forced_pairs(tasks, ((1,), (0,)), (1, 0, 1)), ((0, 1),))
        self.assert_same(forced_pairs(tasks, ((1,), (0,)), (1, 1, 0)), ((1, 0),))
        self.assert_same(forced_pairs(tasks, ((2,), (0,)), (1, 1, 0)), ())

    def test_many_orders(self):
        tasks = ((1, 9, 9),) * 6
        self.assertEqual(len(explaining_orders(tasks, ((),) * 6, ())), 720)
        found = explaining_orders(tasks, ((0,), (), (), (0,), (), ()), (3, 0))
        self.assertEqual(len(found), 360)
        self.assertEqual(list(found), sorted(found))

    def test_wrong_arguments(self):
        wrong = [wrong_tasks(errors), wrong_patterns(errors), wrong_schedules(errors)]
        for call in (forced_pairs, explaining_orders):
            self.assert_wrong_arguments(call, GOOD, wrong)


class BreachTest(Checks, unittest.TestCase):
    def test_random_schedules(self):
        rng = rng_of(412)
        counts = {}
        for _ in range(300):
            tasks = random_tasks(rng, most=4, most_cost=4)
            pattern = random_pattern(rng, tasks, most=3)
            schedule = some_schedule(rng, tasks, pattern)
            for policy in all_policies(random_order(rng, tasks)):
                found = self.assert_steady(first_breach, tasks, pattern, schedule, policy)
                self.assert_same(found, plain_breach(tasks, pattern, schedule, policy))
                self.assertEqual(found is None, oracle_schedule(tasks, pattern, policy) == schedule)
                key = "none" if found is None else "last" if found == len(schedule) - 1 else "first" if not found else 0
                counts[policy[0], key] = counts.get((policy[0], key), 0) + 1
        self.assertEqual({word for word, _ in counts}, {"fixed", "deadline", "slack", "whole", "whole deadline"})
        self.assertGreater(min(counts[word, "none"] for word, _ in counts), 30)
        self.assertGreater(min(counts[word, 0] for word, _ in counts), 30)

    def test_several_begun_jobs(self):
        tasks, pattern = ((3, 30, 30), (3, 20, 30), (3, 10, 30)), ((0,), (0,), (0,))
        for policy in (("whole", (2, 1, 0)), ("whole deadline",)):
            self.assert_same(first_breach(tasks, pattern, (2, 2, 2, 1, 1, 1, 0, 0, 0), policy), None)
            # The second job that begins is the breach already, whatever comes behind it.
            self.assert_same(first_breach(tasks, pattern, (2, 1, 0, 0, 0, 1, 1, 2, 2), policy), 1)
            self.assert_same(first_breach(tasks, pattern, (2, 2, 1, 0, 2, 1, 0, 1, 0), policy), 2)
            self.assert_same(first_breach(tasks, pattern, (2, 2, None, 2, 1, 1, 1, 0, 0, 0), policy), 2)
            self.assert_same(first_breach(tasks, pattern, (2, 2, 2, 1, 1, 0, 0, 0, 1), policy), 5)
            self.assert_same(first_breach(tasks, pattern, (2, 2, 2, 0, 0, 0, 1, 1, 1), policy), 3)
        # A job that arrives later does not come ahead of the one that has begun.
        later = ((0,), (), (1,))
        self.assert_same(first_breach(tasks, later, (0, 0, 0, 2, 2, 2), ("whole", (2, 1, 0))), None)
        self.assert_same(first_breach(tasks, later, (0, 0, 0, 2, 2, 2), ("fixed", (2, 1, 0))), 1)
        self.assert_same(first_breach(tasks, later, (0, 2, 2, 2, 0, 0), ("whole", (2, 1, 0))), 1)

    def test_the_units_before_are_those_of_the_schedule(self):
        # The breach is at unit 0; behind it the policy would agree.
        tasks, pattern = ((1, 9, 9), (2, 9, 9)), ((0,), (0,))
        self.assert_same(first_breach(tasks, pattern, (1, 0, 1), ("fixed", (0, 1))), 0)
        self.assert_same(first_breach(tasks, pattern, (1, 0, 1), ("fixed", (1, 0))), 1)
        self.assert_same(first_breach(tasks, pattern, (1, 0, 1), ("whole", (1, 0))), 1)
        self.assert_same(first_breach(tasks, pattern, (1, 0, 1), ("slack",)), None)
        self.assert_same(first_breach(tasks, pattern, (1, 1, 0), ("slack",)), 1)
        self.assert_same(first_breach(tasks, pattern, (0, 1, 1), ("deadline",)), None)
        # The last unit of a schedule.
        self.assert_same(first_breach(tasks, ((0,), (5,)), (0,) + (None,) * 5 + (1, 1), ("deadline",)), 5)
        self.assert_same(first_breach(((1, 1, 9),), ((0,),), (None, 0), ("deadline",)), 0)
        self.assert_same(first_breach(((1, 1, 9),), ((1,),), (None, 0), ("deadline",)), None)
        self.assert_same(first_breach(((1, 1, 9),), ((),), (), ("deadline",)), None)

    def test_wrong_arguments(self):
        policies = [(value, errors.BadPolicy()) for value in wrong_policies()]
        wrong = [wrong_tasks(errors), wrong_patterns(errors), wrong_schedules(errors), policies]
        self.assert_wrong_arguments(first_breach, (*GOOD, ("deadline",)), wrong)


class DeadlineChoicesTest(Checks, unittest.TestCase):
    def plain(self, tasks, pattern, schedule, task):
        cost, _, gap = tasks[task]
        fitting = []
        for deadline in range(1, 61):
            changed = tasks[:task] + ((cost, deadline, gap),) + tasks[task + 1:]
            if oracle_schedule(changed, pattern, ("deadline",)) == schedule:
                fitting.append(deadline)
        self.assertEqual(fitting, list(range(fitting[0], fitting[-1] + 1)) if fitting else [])
        return (fitting[0], fitting[-1]) if fitting else None

    def test_random_schedules(self):
        rng = rng_of(413)
        found = {}
        for _ in range(150):
            tasks = random_tasks(rng, most=4, most_cost=3, most_deadline=rng.choice((8, 60)))
            pattern = random_pattern(rng, tasks, most=3)
            schedule = oracle_schedule(tasks, pattern, ("deadline",))
            if rng.random() < 0.3:
                schedule = some_schedule(rng, tasks, pattern)
            for task in range(len(tasks)):
                wanted = self.plain(tasks, pattern, schedule, task)
                self.assert_same(self.assert_steady(deadline_choices, tasks, pattern, schedule, task), wanted)
                key = None if wanted is None else (wanted[0] > 1, wanted[1] < 60)
                found[key] = found.get(key, 0) + 1
        self.assertEqual(len(found), 5)
        self.assertGreater(min(found.values()), 5, found)

    def test_small_cases(self):
        tasks, pattern = ((1, 9, 9), (1, 9, 9), (1, 9, 9)), ((0,), (0,), (0,))
        # Of two equal due times the smaller task comes first.
        self.assert_same(deadline_choices(tasks, pattern, (0, 1, 2), 1), (9, 9))
        self.assert_same(deadline_choices(tasks, pattern, (0, 1, 2), 0), (1, 9))
        self.assert_same(deadline_choices(tasks, pattern, (0, 1, 2), 2), (9, 60))
        self.assert_same(deadline_choices(tasks, pattern, (0, 2, 1), 2), None)
        self.assert_same(deadline_choices(tasks, pattern, (2, 0, 1), 2), (1, 8))
        self.assert_same(deadline_choices(tasks, ((), (), ()), (), 0), (1, 60))
        self.assert_same(deadline_choices(tasks, ((0,), (), ()), (None, 0), 0), None)
        self.assert_same(deadline_choices(((1, 60, 9), (1, 60, 9)), ((0,), (0,)), (1, 0), 0), None)
        self.assert_same(deadline_choices(((1, 59, 9), (1, 58, 9)), ((0,), (0,)), (1, 0), 0), (59, 60))

    def test_wrong_arguments(self):
        rows = [(value, errors.BadTask()) for value in wrong_indexes(2)]
        wrong = [wrong_tasks(errors), wrong_patterns(errors), wrong_schedules(errors), rows]
        self.assert_wrong_arguments(deadline_choices, (*GOOD, 1), wrong)


if __name__ == "__main__":
    unittest.main()
