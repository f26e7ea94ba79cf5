"""Point 7: feasible orders, stuck sets and the room for greater costs."""

import unittest
from fractions import Fraction
from itertools import chain, combinations, permutations
from math import gcd

from eventcore import errors
from eventcore.fixed import meets_fixed
from eventcore.orders import feasible_order, greatest_scale, shows_stuck, stuck_set
from support import ANY_VALUES, Checks, random_order, random_tasks, rate, rng_of, wrong_orders, wrong_tasks
from test_fixed import ENDLESS, LONG, LONGER, plain_worst


def plain_meets(tasks, order):
    rows = [plain_worst(tasks, order, task) for task in range(len(tasks))]
    return all(row is not None and row[0] <= tasks[task][1] for task, row in enumerate(rows))


def plain_stuck(tasks, value):
    for task in value:
        front = tuple(other for other in value if other != task)
        rest = tuple(other for other in range(len(tasks)) if other not in value)
        row = plain_worst(tasks, front + (task,) + rest, task)
        if row is not None and row[0] <= tasks[task][1]:
            return False
    return len(value) > 0


def subsets(many):
    return chain.from_iterable(combinations(range(many), size) for size in range(many + 1))


class FeasibleOrderTest(Checks, unittest.TestCase):
    def test_small_cases(self):
        self.assert_same(feasible_order(((1, 1, 1),)), (0,))
        self.assert_same(stuck_set(((1, 1, 1),)), None)
        self.assert_same(feasible_order(((2, 1, 2),)), None)
        self.assert_same(stuck_set(((2, 1, 2),)), (0,))
        self.assert_same(stuck_set(((2, 60, 1),)), (0,))
        tasks = ((1, 4, 4), (2, 3, 6))
        self.assert_same(feasible_order(((1, 1, 4), (2, 3, 6))), (0, 1))
        self.assert_same(feasible_order(((2, 3, 6), (1, 1, 4))), (1, 0))
        self.assertTrue(meets_fixed(tasks, feasible_order(tasks)))
        self.assert_same(feasible_order(((2, 2, 4), (2, 3, 6))), None)
        self.assert_same(stuck_set(((2, 2, 4), (2, 3, 6))), (0, 1))

    def test_a_stuck_set_among_others(self):
        # Tasks 1 and 3 exclude each other; tasks 0 and 2 can stand behind them.
        tasks = ((1, 60, 60), (2, 2, 20), (1, 60, 60), (2, 2, 20))
        self.assert_same(stuck_set(tasks), (1, 3))
        self.assertIs(shows_stuck(tasks, (1, 3)), True)
        self.assertIs(shows_stuck(tasks, (0, 1, 3)), False)
        self.assertIs(shows_stuck(tasks, (1,)), False)

    def test_the_order_of_deadlines_does_not_always_do(self):
        # With deadlines greater than the gaps an order may be feasible although that of the deadlines is not.
        for tasks in (((2, 8, 4), (5, 10, 10)), ((2, 10, 4), (7, 14, 14)), ((3, 11, 5), (7, 18, 18))):
            self.assertIs(meets_fixed(tasks, (0, 1)), False)
            self.assert_same(feasible_order(tasks), (1, 0))
            self.assert_same(feasible_order(tasks[::-1]), (0, 1))
            self.assert_same(stuck_set(tasks), None)

    def test_random_sets(self):
        rng = rng_of(18)
        counts = [0, 0]
        for _ in range(250):
            tasks = random_tasks(rng, most=4, most_cost=4, most_gap=10)
            wanted = any(plain_meets(tasks, order) for order in permutations(range(len(tasks))))
            order = self.assert_steady(feasible_order, tasks)
            stuck = self.assert_steady(stuck_set, tasks)
            counts[wanted] += 1
            if wanted:
                self.assertIs(type(order), tuple)
                self.assertEqual(sorted(order), list(range(len(tasks))))
                self.assertTrue(plain_meets(tasks, order))
                self.assertIs(meets_fixed(tasks, order), True)
                self.assertIsNone(stuck)
            else:
                self.assertIsNone(order)
                self.assertTrue(plain_stuck(tasks, stuck))
                self.assertEqual(stuck, tuple(sorted(set(stuck))))
                self.assertIs(shows_stuck(tasks, stuck), True)
        self.assertGreater(min(counts), 50)

    def test_six_tasks(self):
        rng = rng_of(19)
        counts = {True: 0, False: 0}
        for _ in range(100):
            tasks = tuple((rng.randint(1, 4), rng.randint(3, 30), rng.randint(8, 24)) for _ in range(6))
            order, stuck = feasible_order(tasks), stuck_set(tasks)
            counts[order is None] += 1
            self.assertEqual(order is None, stuck is not None)
            if order is None:
                self.assertTrue(plain_stuck(tasks, stuck))
            else:
                self.assertTrue(plain_meets(tasks, order))
        self.assertGreater(min(counts.values()), 20)


class ShowsStuckTest(Checks, unittest.TestCase):
    def test_every_subset(self):
        rng = rng_of(20)
        shown = 0
        for _ in range(150):
            tasks = random_tasks(rng, most=4, most_cost=4, most_gap=10)
            for value in subsets(len(tasks)):
                wanted = plain_stuck(tasks, value)
                shown += wanted
                self.assertIs(self.assert_steady(shows_stuck, tasks, value), wanted)
                self.assertIs(shows_stuck(tasks, list(value)), False)
        self.assertGreater(shown, 100)

    def test_bent_sets(self):
        tasks = ((2, 1, 9),) * 4
        for value in subsets(4):
            self.assertIs(shows_stuck(tasks, value), value != ())
        for value in ((1, 0), (0, 0), (0, 1, 1), (0, 2, 1), (4,), (0, 4), (-1,), (-1, 0), (True,), (False,), (0, True),
                      (0, None), (0, "1"), (0, (1,)), [0], [0, 1], {0: 1}, "0", (10 ** 30,), ((0,),)):
            self.assertIs(shows_stuck(tasks, value), False)

    def test_values_of_all_kinds(self):
        for value in ANY_VALUES:
            self.assertIs(shows_stuck(((1, 4, 4), (2, 6, 6)), value), False)
            wanted = isinstance(value, tuple) and value in ((0,), (1,), (0, 1)) and all(type(k) is int for k in value)
            self.assertIs(shows_stuck(((2, 1, 4), (2, 1, 6)), value), wanted)


class TooManyTest(Checks, unittest.TestCase):
    def test_five_thousand_and_beyond(self):
        self.assert_same(feasible_order(LONG), None)
        self.assertIs(shows_stuck(LONG, stuck_set(LONG)), True)
        for tasks in (LONGER, ENDLESS, tuple((cost, 1, gap) for cost, _, gap in ENDLESS)):
            self.assert_error(errors.TooMany(5000), feasible_order, tasks)
            self.assert_error(errors.TooMany(5000), stuck_set, tasks)
            for value in ((0,), (), None, (0, 1, 2, 3), [0]):
                self.assert_error(errors.TooMany(5000), shows_stuck, tasks, value)

    def test_some_tasks_among_others(self):
        # The busy period of four tasks is too long; that of all five does not exist.
        for tasks in (ENDLESS + ((20, 1, 10),), ((20, 60, 10),) + ENDLESS, ENDLESS[:2] + ((20, 1, 1),) + ENDLESS[2:]):
            self.assert_error(errors.TooMany(5000), feasible_order, tasks)
            self.assert_error(errors.TooMany(5000), stuck_set, tasks)
            self.assert_error(errors.TooMany(5000), shows_stuck, tasks, (0,))

    def test_sets_without_a_busy_period_are_no_such_error(self):
        tasks = LONG + ((20, 60, 10),)
        self.assert_same(feasible_order(tasks), None)
        self.assertTrue(plain_stuck(tasks, stuck_set(tasks)))


class GreatestScaleTest(Checks, unittest.TestCase):
    def test_examples(self):
        answers = [greatest_scale(((1, 4, 4), (2, 6, 6), (3, 12, 12)), (0, 1, 2)), stuck_set(((2, 1, 2),))]
        self.assert_same(answers, [(6, 5), (0,)])

    def test_small_cases(self):
        self.assert_same(greatest_scale(((1, 1, 1),), (0,)), (1, 1))
        self.assert_same(greatest_scale(((20, 1, 60),), (0,)), (1, 20))
        self.assert_same(greatest_scale(((1, 60, 60),), (0,)), (60, 1))
        self.assert_same(greatest_scale(((4, 6, 6),), (0,)), (3, 2))
        self.assert_same(greatest_scale(((2, 4, 4), (3, 12, 12)), (0, 1)), (4, 3))
        self.assert_same(greatest_scale(((2, 4, 4), (3, 12, 12)), (1, 0)), (4, 5))

    def test_random_sets(self):
        rng = rng_of(21)
        for _ in range(300):
            tasks = tuple((rng.randint(1, 20), rng.randint(1, gap), gap)
                          for gap in (rng.randint(1, 60) for _ in range(rng.randint(1, 6))))
            order = random_order(rng, tasks)
            scales = []
            for place, task in enumerate(order):
                rows = [tasks[other] for other in order[:place + 1]]
                scales.append(max(Fraction(time, sum(cost * -(-time // gap) for cost, _, gap in rows))
                                  for time in range(1, tasks[task][1] + 1)))
            wanted = min(scales)
            found = self.assert_steady(greatest_scale, tasks, order)
            self.assert_same(found, (wanted.numerator, wanted.denominator))
            self.assertEqual(gcd(*found), 1)
            if rate(tasks) <= Fraction(9, 10):
                self.assertEqual(wanted >= 1, plain_meets(tasks, order))

    def test_long_deadlines(self):
        self.assert_error(errors.LongDeadline(0), greatest_scale, ((1, 5, 4),), (0,))
        self.assert_error(errors.LongDeadline(1), greatest_scale, ((1, 4, 4), (1, 5, 4), (1, 6, 5)), (0, 1, 2))
        self.assert_same(greatest_scale(((1, 4, 4),), (0,)), (4, 1))

    def test_long_deadlines_are_an_error_of_the_first_argument(self):
        for value in wrong_orders():
            self.assert_error(errors.LongDeadline(1), greatest_scale, ((1, 4, 4), (1, 5, 4)), value)
        self.assert_error(errors.BadTasks(2), greatest_scale, ((1, 4, 4), (1, 5, 4), (1, 0, 4)), (0, 1, 2))


class WrongValueTest(Checks, unittest.TestCase):
    def test_wrong_arguments(self):
        for call in (feasible_order, stuck_set):
            self.assert_wrong_arguments(call, (((1, 4, 4),),), [wrong_tasks(errors)])
        self.assert_wrong_arguments(shows_stuck, (((1, 4, 4),), (0,)), [wrong_tasks(errors)])
        self.assert_wrong_arguments(greatest_scale, (((1, 4, 4), (2, 6, 6)), (0, 1)), [
            wrong_tasks(errors), [(value, errors.BadOrder()) for value in wrong_orders()]])


if __name__ == "__main__":
    unittest.main()
