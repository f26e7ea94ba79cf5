"""Points 13 and 14: long jobs without interruption, schedules that wait, and programs of blocks."""

import unittest
from itertools import combinations

from eventcore import errors
from eventcore.machine import fewest_points, needs_waiting, shows_whole_starts, whole_starts
from support import (ANY_VALUES, Checks, bent_tuples, is_whole, random_long_jobs, rng_of, some_order_fits,
                     wait_free_end, wrong_long_jobs, wrong_numbers)


def plain_whole_starts(jobs, value):
    """What point 13 says of start times, unit by unit."""
    if type(value) is not tuple or len(value) != len(jobs) or any(type(start) is not int for start in value):
        return False
    taken = []
    for (arrival, length, due), start in zip(jobs, value):
        if start < arrival or start + length > due:
            return False
        taken += range(start, start + length)
    return len(taken) == len(set(taken))


def waits_somewhere(jobs, starts):
    """Whether the machine is idle in some unit although a job that has arrived has not begun."""
    for unit in range(max(starts)):
        idle = not any(start <= unit < start + length for (_, length, _), start in zip(jobs, starts))
        if idle and any(arrival <= unit < start for (arrival, _, _), start in zip(jobs, starts)):
            return True
    return False


class WholeStartsTest(Checks, unittest.TestCase):
    def test_example(self):
        jobs = ((0, 4, 9), (1, 2, 4))
        answers = [needs_waiting(jobs), shows_whole_starts(jobs, (3, 1)), shows_whole_starts(jobs, (2, 1))]
        self.assert_same(answers, [True, True, False])

    def test_small_cases(self):
        self.assert_same(whole_starts(((5, 3, 8),)), (5,))
        self.assert_same(whole_starts(((5, 3, 7),)), None)
        self.assert_same(whole_starts(((80, 20, 100),)), (80,))
        self.assert_same(whole_starts(((100, 1, 0),)), None)
        self.assert_same(whole_starts(((0, 4, 9), (1, 2, 4))), (3, 1))
        self.assert_same(whole_starts(((0, 4, 4), (4, 2, 6))), (0, 4))
        self.assert_same(whole_starts(((0, 5, 5), (4, 2, 6))), None)
        # The longest job is the last one, the first one, and stands between the others.
        self.assert_same(whole_starts(((0, 9, 16), (0, 3, 3), (3, 4, 7))), (7, 0, 3))
        self.assert_same(whole_starts(((0, 9, 9), (0, 3, 12), (3, 4, 16))), (0, 9, 12))
        self.assert_same(whole_starts(((0, 9, 12), (0, 3, 3), (3, 4, 16))), (3, 0, 12))

    def test_random_jobs(self):
        rng = rng_of(130)
        counts = {}
        for _ in range(900):
            jobs = random_long_jobs(rng, most=rng.choice((1, 3, 5, 7)), slack=rng.choice((6, 12, 25)))
            starts = self.assert_steady(whole_starts, jobs)
            wanted = some_order_fits(jobs)
            self.assertEqual(starts is not None, wanted, jobs)
            waiting = self.assert_steady(needs_waiting, jobs)
            self.assertIs(waiting, wanted and not wait_free_end(jobs, [], 0), jobs)
            if wanted:
                self.assertTrue(plain_whole_starts(jobs, starts), (jobs, starts))
                self.assertIs(shows_whole_starts(jobs, starts), True)
                if waiting:
                    self.assertTrue(waits_somewhere(jobs, starts))
            counts[(wanted, waiting)] = counts.get((wanted, waiting), 0) + 1
        self.assertEqual(len(counts), 3)
        self.assertGreater(min(counts.values()), 20)

    def test_seven_jobs_of_unlike_lengths(self):
        jobs = ((0, 1, 56), (0, 2, 56), (0, 5, 56), (0, 8, 56), (0, 20, 56), (0, 3, 56), (0, 17, 56))
        self.assertTrue(plain_whole_starts(jobs, whole_starts(jobs)))
        self.assert_same(needs_waiting(jobs), False)
        tight = tuple((arrival, length, due - 1) for arrival, length, due in jobs)
        self.assert_same([whole_starts(tight), needs_waiting(tight)], [None, False])

    def test_waiting(self):
        for jobs, wanted in ((((0, 4, 9), (1, 2, 4)), True),
                             # The job arrives exactly when another one finishes: nothing waits.
                             (((0, 4, 4), (4, 2, 6)), False),
                             (((0, 4, 9), (4, 2, 6)), False),
                             (((0, 4, 9), (3, 2, 5)), True),
                             # The machine may be idle while no job is there.
                             (((3, 1, 4), (7, 1, 8)), False),
                             (((3, 4, 9), (4, 1, 5)), True),
                             # There are no such start times at all.
                             (((0, 4, 6), (1, 2, 4)), False),
                             (((0, 4, 7), (1, 2, 4)), True),
                             # A first job that fits in front of the urgent one leaves no need to wait.
                             (((0, 4, 30), (0, 1, 30), (1, 2, 3)), False),
                             (((0, 4, 30), (0, 2, 30), (1, 2, 3)), True),
                             # The waiting comes after a first busy time.
                             (((0, 3, 3), (2, 4, 30), (4, 2, 6)), True),
                             (((0, 3, 3), (4, 4, 30), (4, 2, 6)), False),
                             (((0, 3, 3), (3, 4, 30), (4, 2, 6)), True)):
            self.assert_same(needs_waiting(jobs), wanted)
            self.assert_same(needs_waiting(jobs[::-1]), wanted)

    def test_judge(self):
        rng = rng_of(131)
        counts = [0, 0]
        for _ in range(400):
            jobs = random_long_jobs(rng, most=5, slack=20)
            starts = whole_starts(jobs) or tuple(arrival for arrival, _, _ in jobs)
            for value in bent_tuples(rng, starts):
                wanted = plain_whole_starts(jobs, value)
                self.assertIs(self.assert_steady(shows_whole_starts, jobs, value), wanted, (jobs, value))
                counts[wanted] += 1
        self.assertGreater(min(counts), 500)

    def test_values_of_other_kinds(self):
        for value in ANY_VALUES:
            self.assertIs(self.assert_steady(shows_whole_starts, ((50, 1, 90), (60, 1, 90)), value), False)
        jobs = ((0, 1, 9), (0, 2, 9))
        self.assertIs(shows_whole_starts(jobs, (0, 1)), True)
        for value in ((False, 1), (0, True), (0, 1, 2), (0,), [0, 1], (0, None), (0, (1,)), (-1, 1), (10 ** 30, 1)):
            self.assertIs(shows_whole_starts(jobs, value), False)

    def test_wrong_arguments(self):
        self.assert_wrong_arguments(whole_starts, (((0, 2, 5),),), [wrong_long_jobs(errors)])
        self.assert_wrong_arguments(needs_waiting, (((0, 2, 5),),), [wrong_long_jobs(errors)])
        self.assert_wrong_arguments(shows_whole_starts, (((0, 2, 5),), (0,)), [wrong_long_jobs(errors)])


def cuts_well(blocks, most, overhead, points):
    """Whether the points cut the blocks into stretches that are not too long."""
    ends = [0, *points, len(blocks)]
    for place, (start, stop) in enumerate(zip(ends, ends[1:])):
        if sum(blocks[start:stop]) + (overhead if place else 0) > most:
            return False
    return True


def least_number(blocks, most, overhead):
    """The number of the fewest points by trying all sets of places, or None."""
    for many in range(len(blocks)):
        for points in combinations(range(1, len(blocks)), many):
            if cuts_well(blocks, most, overhead, points):
                return many
    return None


class FewestPointsTest(Checks, unittest.TestCase):
    def check(self, blocks, most, overhead):
        points = self.assert_steady(fewest_points, blocks, most, overhead)
        wanted = least_number(blocks, most, overhead)
        if wanted is None:
            self.assert_same(points, None)
            return None
        self.assertIs(type(points), tuple)
        self.assertTrue(all(is_whole(place, 1, len(blocks) - 1) for place in points), points)
        self.assertEqual(list(points), sorted(set(points)))
        self.assertTrue(cuts_well(blocks, most, overhead, points), (blocks, most, overhead, points))
        self.assertEqual(len(points), wanted, (blocks, most, overhead, points))
        return wanted

    def test_random_programs(self):
        rng = rng_of(140)
        counts = {}
        for _ in range(700):
            blocks = tuple(rng.randint(1, rng.choice((4, 20))) for _ in range(rng.randint(1, rng.choice((4, 9)))))
            wanted = self.check(blocks, rng.randint(1, 40), rng.choice((0, 0, 1, 3, rng.randint(0, 20))))
            counts[wanted] = counts.get(wanted, 0) + 1
        for key in (None, 0, 1, 2, 3):
            self.assertGreater(counts[key], 10)

    def test_limits_around_the_greatest_block(self):
        rng = rng_of(141)
        for _ in range(150):
            blocks = tuple(rng.randint(1, 20) for _ in range(rng.randint(1, 7)))
            overhead = rng.randint(0, 20)
            for most in (max(blocks) - 1, max(blocks), max(blocks) + overhead - 1, max(blocks) + overhead, sum(blocks)):
                if 1 <= most <= 100:
                    self.check(blocks, most, overhead)

    def test_the_overhead(self):
        # The first stretch has no overhead, each other one has.
        self.assert_same(fewest_points((5, 3), 5, 2), (1,))
        self.assert_same(fewest_points((3, 5), 5, 2), None)
        self.assert_same(fewest_points((3, 5), 7, 2), (1,))
        self.assert_same(fewest_points((3, 5), 8, 20), ())
        self.assertEqual(self.check((4, 2, 2, 2), 4, 0), 2)
        self.assert_same(fewest_points((4, 2, 2, 2), 4, 1), (1, 2, 3))
        self.assert_same(fewest_points((4, 2, 2, 2), 4, 2), (1, 2, 3))
        self.assert_same(fewest_points((4, 2, 2, 2), 4, 3), None)
        self.assert_same(fewest_points((1,) * 12, 1, 0), tuple(range(1, 12)))
        self.assert_same(fewest_points((1,) * 12, 1, 1), None)
        self.assert_same(fewest_points((20,) * 12, 40, 20), (2, 3, 4, 5, 6, 7, 8, 9, 10, 11))

    def test_one_block(self):
        self.assert_same(fewest_points((7,), 7, 20), ())
        self.assert_same(fewest_points((7,), 6, 0), None)
        self.assert_same(fewest_points((20,), 100, 0), ())

    def test_wrong_arguments(self):
        bad = [value for value in ANY_VALUES
               if type(value) is not tuple or not value or not all(is_whole(entry, 1, 20) for entry in value)]
        bad += [(1,) * 13, (0,), (21,), (5, 0), (5, True), (5, None), (5, "5"), (5, (5,)), [5, 5], (5, -1)]
        blocks = [(value, errors.BadBlocks()) for value in bad]
        mosts = [(value, errors.BadLength()) for value in wrong_numbers(1, 100)]
        overheads = [(value, errors.BadLength()) for value in wrong_numbers(0, 20)]
        self.assert_wrong_arguments(fewest_points, ((5, 5), 9, 1), [blocks, mosts, overheads])


if __name__ == "__main__":
    unittest.main()
