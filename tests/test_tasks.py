"""Point 2: task sets, patterns and the function synchronous."""

import unittest

from eventcore import errors
from eventcore.simulation import simulate
from eventcore.tasks import synchronous
from support import PATTERN_TASKS, Checks, random_tasks, rng_of, wrong_lengths, wrong_patterns, wrong_tasks

FIXED = ("fixed", (0, 1))


class TaskSetTest(Checks, unittest.TestCase):
    def test_one_and_six_tasks(self):
        self.assertEqual(synchronous(((1, 1, 1),), 1), ((0,),))
        self.assertEqual(synchronous(((1, 1, 60),) * 6, 1), ((0,),) * 6)

    def test_both_ends_of_each_range(self):
        for task in ((1, 1, 1), (20, 1, 1), (1, 60, 1), (1, 1, 60), (20, 60, 60)):
            self.assertEqual(synchronous((task,), 1), ((0,),))
            self.assertEqual(synchronous(((1, 1, 1), task), 1), ((0,), (0,)))

    def test_one_beyond_each_range(self):
        for task in ((0, 1, 1), (21, 1, 1), (1, 0, 1), (1, 61, 1), (1, 1, 0), (1, 1, 61), (-1, 1, 1)):
            self.assert_error(errors.BadTasks(0), synchronous, (task,), 1)
            self.assert_error(errors.BadTasks(1), synchronous, ((1, 1, 1), task, (0, 0, 0)), 1)

    def test_seven_tasks_and_none(self):
        self.assert_error(errors.BadTasks(None), synchronous, ((1, 1, 1),) * 7, 1)
        self.assert_error(errors.BadTasks(None), synchronous, (), 1)

    def test_wrong_values_in_every_place(self):
        for value, error in wrong_tasks(errors):
            self.assert_error(error, synchronous, value, 1)
            self.assert_error(error, synchronous, value, -1)


class SynchronousTest(Checks, unittest.TestCase):
    def test_example(self):
        self.assert_same(synchronous(((1, 4, 4), (2, 6, 6)), 9), ((0, 4, 8), (0, 6)))

    def test_lengths_at_both_ends(self):
        tasks = ((1, 1, 50), (1, 1, 60), (1, 1, 33))
        self.assert_same(synchronous(tasks, 0), ((), (), ()))
        self.assert_same(synchronous(tasks, 1), ((0,), (0,), (0,)))
        self.assert_same(synchronous(tasks, 50), ((0,), (0,), (0, 33)))
        self.assert_same(synchronous(tasks, 51), ((0, 50), (0,), (0, 33)))
        self.assert_same(synchronous(tasks, 99), ((0, 50), (0, 60), (0, 33, 66)))
        self.assert_same(synchronous(tasks, 100), ((0, 50), (0, 60), (0, 33, 66, 99)))
        self.assert_error(errors.BadLength(), synchronous, tasks, 101)
        self.assert_error(errors.BadLength(), synchronous, tasks, -1)

    def test_forty_arrivals_and_more(self):
        self.assert_same(synchronous(((1, 1, 1),), 40), (tuple(range(40)),))
        self.assert_error(errors.TooMany(40), synchronous, ((1, 1, 1),), 41)
        self.assert_error(errors.TooMany(40), synchronous, ((1, 1, 1),), 100)
        self.assertEqual(sum(map(len, synchronous(((1, 1, 5),) * 2, 100))), 40)
        self.assert_error(errors.TooMany(40), synchronous, ((1, 1, 5), (1, 1, 5), (1, 1, 60)), 100)

    def test_too_many_comes_last(self):
        self.assert_error(errors.BadLength(), synchronous, ((1, 1, 1),), 101)
        self.assert_error(errors.BadTasks(1), synchronous, ((1, 1, 1), 5), 100)

    def test_wrong_arguments(self):
        self.assert_wrong_arguments(synchronous, (PATTERN_TASKS, 5), [
            wrong_tasks(errors), [(value, errors.BadLength()) for value in wrong_lengths(100)]])

    def test_all_lengths(self):
        rng = rng_of(1)
        for _ in range(100):
            tasks = random_tasks(rng, most=6, most_gap=60)
            length = rng.randint(0, 100)
            wanted = tuple(tuple(time for time in range(length) if time % gap == 0) for _, _, gap in tasks)
            if sum(map(len, wanted)) > 40:
                self.assert_error(errors.TooMany(40), synchronous, tasks, length)
            else:
                self.assert_same(self.assert_steady(synchronous, tasks, length), wanted)


class PatternTest(Checks, unittest.TestCase):
    def test_first_and_last_arrival(self):
        tasks = ((2, 9, 60),)
        self.assertEqual(simulate(tasks, ((0,),), ("deadline",)), (0, 0))
        self.assertEqual(simulate(tasks, ((100,),), ("deadline",)), (None,) * 100 + (0, 0))
        self.assert_error(errors.BadPattern(0), simulate, tasks, ((101,),), ("deadline",))
        self.assert_error(errors.BadPattern(0), simulate, tasks, ((-1,),), ("deadline",))

    def test_one_gap_apart_and_one_unit_closer(self):
        for gap in (1, 2, 7, 60):
            tasks = ((1, 5, gap),)
            for start in (0, 3, 100 - gap):
                self.assertEqual(simulate(tasks, ((start, start + gap),), ("slack",))[start], 0)
                self.assert_error(errors.BadPattern(0), simulate, tasks, ((start, start + gap - 1),), ("slack",))

    def test_the_gap_is_that_of_the_task(self):
        tasks = ((1, 5, 3), (1, 5, 7))
        self.assertEqual(len(simulate(tasks, ((0, 3), (0, 7)), FIXED)), 8)
        self.assert_error(errors.BadPattern(1), simulate, tasks, ((0, 3), (0, 6)), FIXED)
        self.assert_error(errors.BadPattern(0), simulate, tasks, ((0, 2), (0, 6)), FIXED)

    def test_forty_arrivals_and_more(self):
        tasks = ((1, 5, 1), (1, 5, 2))
        self.assertEqual(len(simulate(tasks, (tuple(range(30)), tuple(range(0, 20, 2))), FIXED)), 40)
        self.assert_error(errors.TooMany(40), simulate, tasks, (tuple(range(30)), tuple(range(0, 22, 2))), FIXED)
        self.assert_error(errors.TooMany(40), simulate, tasks, (tuple(range(41)), ()), FIXED)
        self.assert_error(errors.TooMany(40), simulate, tasks, ((), tuple(range(0, 82, 2))), FIXED)

    def test_too_many_is_behind_a_bad_pattern_and_ahead_of_later_arguments(self):
        tasks = ((1, 5, 1), (1, 5, 2))
        self.assert_error(errors.BadPattern(1), simulate, tasks, (tuple(range(41)), (0, 1)), None)
        self.assert_error(errors.TooMany(40), simulate, tasks, (tuple(range(41)), (0, 2)), None)
        self.assert_error(errors.BadPolicy(), simulate, tasks, (tuple(range(38)), (0, 2)), None)

    def test_wrong_values(self):
        for value, error in wrong_patterns(errors):
            self.assert_error(error, simulate, PATTERN_TASKS, value, FIXED)

    def test_empty_patterns(self):
        self.assertEqual(simulate(PATTERN_TASKS, ((), ()), FIXED), ())
        self.assertEqual(simulate(((1, 1, 1),), ((),), ("deadline",)), ())
        self.assert_error(errors.BadPattern(None), simulate, ((1, 1, 1),), (), ("deadline",))


if __name__ == "__main__":
    unittest.main()
