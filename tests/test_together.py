"""What the points say of several functions together."""

import unittest

from eventcore import errors
from eventcore.deadlines import first_miss, overfull_length
from eventcore.desk import Desk
from eventcore.explaining import deadline_choices, explaining_orders, first_breach, forced_pairs
from eventcore.filling import fillings, nearest_schedule, possible_entries
from eventcore.fixed import meets_fixed
from eventcore.orders import feasible_order, shows_stuck, stuck_set
from eventcore.schedules import missed
from eventcore.simulation import simulate
from eventcore.supply import table_missed, unserved_length
from eventcore.tasktext import read_tasks, write_tasks
from eventcore.watching import doom, first_doom
from eventcore.whole import longest_region, whole_overfull
from support import all_policies, hyper, random_order, random_pattern, random_task, random_tasks, rng_of


def many_tasks(number, count, **limits):
    rng = rng_of(number)
    return rng, [random_tasks(rng, **limits) for _ in range(count)]


class TogetherTest(unittest.TestCase):
    def test_what_an_order_can_keep_earliest_deadlines_can(self):
        _, rows = many_tasks(1, 300, most=4, most_cost=3, most_gap=20, most_deadline=20)
        counts = {}
        for tasks in rows:
            order, length = feasible_order(tasks), overfull_length(tasks)
            if order is not None:
                self.assertTrue(meets_fixed(tasks, order))
                self.assertIsNone(length)
            else:
                self.assertTrue(shows_stuck(tasks, stuck_set(tasks)))
            # The same without interruption.
            if whole_overfull(tasks) is None:
                self.assertIsNone(length)
            whole = [longest_region(tasks, task) == tasks[task][0] for task in range(len(tasks))]
            self.assertEqual(whole_overfull(tasks) is None, length is None and all(whole))
            if length is None and hyper(tasks) <= 240:
                self.assertIsNone(first_miss(tasks, (0,) * len(tasks)))
            key = (order is None, length is None, whole_overfull(tasks) is None)
            counts[key] = counts.get(key, 0) + 1
        for key in ((False, True, True), (False, True, False), (True, False, False)):
            self.assertGreater(counts[key], 10)
        # Earliest deadlines can keep more.
        self.assertIsNone(feasible_order(((2, 4, 4), (5, 10, 10))))
        self.assertIsNone(overfull_length(((2, 4, 4), (5, 10, 10))))

    def test_a_full_table_is_a_processor(self):
        rng, rows = many_tasks(2, 150, most=4, most_cost=4, most_gap=12, most_deadline=20)
        for tasks in rows:
            table = (1,) * rng.randint(1, 24)
            self.assertEqual(unserved_length(table, tasks), overfull_length(tasks))
            pattern = random_pattern(rng, tasks)
            self.assertEqual(table_missed(table, 3, tasks, pattern), missed(tasks, pattern, ("deadline",)))

    def test_policies_explain_their_schedules(self):
        rng, rows = many_tasks(3, 150, most=5, most_cost=4, most_deadline=30)
        for tasks in rows:
            pattern, order = random_pattern(rng, tasks, most=3), random_order(rng, tasks)
            for policy in all_policies(order):
                schedule = simulate(tasks, pattern, policy)
                self.assertIsNone(first_breach(tasks, pattern, schedule, policy))
                self.assertIsNotNone(forced_pairs(tasks, pattern, schedule))
                if policy[0] == "fixed":
                    self.assertIn(order, explaining_orders(tasks, pattern, schedule))
                if policy[0] == "deadline":
                    for task, (_, deadline, _) in enumerate(tasks):
                        least, most = deadline_choices(tasks, pattern, schedule, task)
                        self.assertTrue(least <= deadline <= most)
                if 1 <= len(schedule) <= 60:
                    self.assertEqual(fillings(tasks, pattern, schedule), 1)
                    self.assertEqual(possible_entries(tasks, pattern, schedule), tuple((entry,) for entry in schedule))
                    self.assertEqual(nearest_schedule(tasks, pattern, schedule), (0, schedule))

    def test_dooms_and_missed_jobs(self):
        rng, rows = many_tasks(4, 200, most=4, most_cost=4, most_deadline=20)
        counts = [0, 0]
        for tasks in rows:
            pattern = random_pattern(rng, tasks, most=3)
            for policy in all_policies(random_order(rng, tasks)):
                schedule = simulate(tasks, pattern, policy)
                late = missed(tasks, pattern, policy)
                many = first_doom(tasks, pattern, schedule)
                self.assertEqual(many is None, late == ())
                if late:
                    self.assertIn(doom(tasks, pattern, schedule)[1:], late)
                    self.assertIsNotNone(doom(tasks, pattern, schedule[:many]))
                    self.assertTrue(many == 0 or doom(tasks, pattern, schedule[:many - 1]) is None)
                counts[late == ()] += 1
            # Earliest deadlines miss a job only if everything does.
            doomed = doom(tasks, pattern, ()) is not None
            self.assertEqual(missed(tasks, pattern, ("deadline",)) != (), doomed)
        self.assertGreater(min(counts), 100)

    def test_tasks_that_stand_together_keep_all_due_times(self):
        rng = rng_of(5)
        for kind in ("deadline", "fixed"):
            refused = 0
            for _ in range(40):
                desk = Desk(kind)
                for name in ("lamp", "bell", "pump", "a", "z", "door"):
                    refused += not desk.admit(name, random_task(rng, most_cost=3, most_gap=30, most_deadline=30))
                tasks = tuple(task for _, task in desk.listed())
                names = [name for name, _ in desk.listed()]
                if not names:
                    continue
                policy = ("deadline",)
                if kind == "fixed":
                    policy = ("fixed", tuple(names.index(name) for name in desk.ranking()))
                for _ in range(5):
                    pattern = random_pattern(rng, tasks, most=6)
                    schedule = simulate(tasks, pattern, policy)
                    self.assertEqual(missed(tasks, pattern, policy), ())
                    self.assertIsNone(first_doom(tasks, pattern, schedule))
                    self.assertIsNone(doom(tasks, pattern, ()))
            self.assertGreater(refused, 20)

    def test_texts_of_desks(self):
        desk = Desk("fixed")
        for name, task in zip("cab", read_tasks("1/9/9, 2/20/20, 3/60/60")):
            self.assertIs(desk.admit(name, task), True)
        self.assertEqual(write_tasks(tuple(task for _, task in desk.listed())), "2/20/20, 3/60/60, 1/9/9")

    def test_errors_are_of_one_family(self):
        for call, arguments in ((Desk, (5,)), (doom, (1, 2, 3)), (fillings, ((), 0, 0)), (unserved_length, (5, 5))):
            with self.assertRaises(errors.EventError) as caught:
                call(*arguments)
            self.assertIn(errors.EventError, type(caught.exception).__bases__)


if __name__ == "__main__":
    unittest.main()
