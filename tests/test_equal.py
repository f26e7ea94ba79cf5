"""Point 12: equal jobs, starts and refusals."""

import unittest

from eventcore import errors
from eventcore.equal import equal_starts, refusal, shows_refusal, shows_starts
from support import (ANY_VALUES, Checks, bent_tuples, rng_of, some_order_fits, wrong_numbers, wrong_pair_jobs)


def plain_starts(jobs, length, value):
    """What point 12 says of starts, clause by clause."""
    if type(value) is not tuple or len(value) != len(jobs) or any(type(start) is not int for start in value):
        return False
    if any(start < arrival or start + length > due for start, (arrival, due) in zip(value, jobs)):
        return False
    return all(abs(value[one] - value[other]) >= length for one in range(len(jobs)) for other in range(one))


def plain_refusal(jobs, length, value):
    """What point 12 says of a refusal, clause by clause, for windows of integers that are not far away."""
    if type(value) is not tuple or not value:
        return False
    closed = set()
    for place, window in enumerate(value):
        if type(window) is not tuple or len(window) != 2 or any(type(entry) is not int for entry in window):
            return False
        first, last = window
        count = sum(1 for arrival, due in jobs if first <= arrival and due <= last)
        if count == 0:
            return False
        bound = last
        for _ in range(count):
            bound = max(time for time in range(bound - length - len(closed) - 1, bound - length + 1)
                        if time not in closed)
        if bound < first:
            return place == len(value) - 1
        closed |= {time for time in range(-300, first) if time > bound - length}
    return False


def random_jobs(rng, most=8):
    """Equal jobs with windows that are wide, tight or smaller than the length, and a length."""
    length = rng.randint(1, rng.choice((2, 3, 5, 9, 20)))
    spread = rng.choice((6, 12, 25, 60, 100))
    jobs = []
    for _ in range(rng.randint(1, most)):
        arrival = rng.randint(0, spread)
        due = arrival + length + rng.randint(0, rng.choice((0, 2, length, 3 * length, 7 * length)))
        if rng.random() < 0.02:
            due = rng.randint(0, 100)
        jobs.append((arrival, min(100, due)))
        if len(jobs) < most and rng.random() < 0.2:
            jobs.append(jobs[-1])
    return tuple(jobs[:most]), length


def some_starts(jobs, length):
    """Whether there are starts, by trying all orders."""
    return some_order_fits([(arrival, length, due) for arrival, due in jobs])


class EqualJobsTest(Checks, unittest.TestCase):
    def test_example(self):
        self.assert_same([equal_starts(((0, 5), (1, 3)), 2), shows_refusal(((0, 4), (1, 3)), 2, ((1, 3), (0, 4)))],
                         [(3, 1), True])

    def check_answers(self, jobs, length):
        starts = self.assert_steady(equal_starts, jobs, length)
        found = self.assert_steady(refusal, jobs, length)
        wanted = some_starts(jobs, length)
        self.assertEqual(starts is not None, wanted, (jobs, length))
        self.assertEqual(found is None, wanted, (jobs, length))
        if wanted:
            self.assertTrue(plain_starts(jobs, length, starts), (jobs, length))
            self.assertIs(shows_starts(jobs, length, starts), True)
        else:
            self.assertTrue(plain_refusal(jobs, length, found), (jobs, length))
            self.assertIs(shows_refusal(jobs, length, found), True)
        return wanted

    def test_starts_or_a_refusal(self):
        rng = rng_of(120)
        counts = {}
        for _ in range(2500):
            jobs, length = random_jobs(rng, most=rng.choice((2, 4, 6, 7)))
            key = (self.check_answers(jobs, length), len(jobs) > 3)
            counts[key] = counts.get(key, 0) + 1
        self.assertEqual(len(counts), 4)
        self.assertGreater(min(counts.values()), 100)

    def test_one_job_and_eight(self):
        rng = rng_of(121)
        counts = {}
        for _ in range(150):
            jobs, length = random_jobs(rng, most=1)
            self.check_answers(jobs, length)
            jobs, length = random_jobs(rng)
            while len(jobs) < 8:
                jobs, length = random_jobs(rng)
            wanted = self.check_answers(jobs, length)
            counts[wanted] = counts.get(wanted, 0) + 1
        self.assertEqual(len(counts), 2)
        self.assert_same(equal_starts(((7, 9),), 2), (7,))
        self.assert_same(equal_starts(((7, 9),), 3), None)
        self.assert_same(equal_starts(((100, 0),), 1), None)
        self.assert_same(equal_starts(((80, 100),), 20), (80,))
        self.assert_same(sorted(equal_starts(((0, 8),) * 8, 1)), list(range(8)))
        self.assert_same(equal_starts(((0, 7),) * 8, 1), None)
        self.assert_same(sorted(equal_starts(((4, 100),) * 8, 12)), list(range(4, 100, 12)))
        self.assert_same(equal_starts(((5, 100),) * 8, 12), None)

    def test_windows_smaller_than_the_length(self):
        for jobs in (((3, 4),), ((3, 3),), ((4, 3),), ((100, 0),), ((0, 90), (3, 4)), ((0, 0), (0, 90))):
            self.assertIs(self.check_answers(jobs, 2), False)
        self.assertIs(shows_refusal(((4, 3), (0, 50)), 2, ((4, 3),)), True)

    def test_closed_times_matter(self):
        # The machine must stay free at 0 although a job is there, and twice at that.
        self.assert_same(equal_starts(((0, 11), (1, 4), (5, 8)), 3), (8, 1, 5))
        # The long wait only shows if the windows are worked through one after the other.
        jobs = ((0, 7), (1, 4))
        self.assert_same(equal_starts(jobs, 3), (4, 1))
        self.assert_same(equal_starts(((0, 6), (1, 4)), 3), None)
        self.assertIs(shows_refusal(((0, 6), (1, 4)), 3, ((0, 6),)), False)
        self.assertIs(shows_refusal(((0, 6), (1, 4)), 3, ((1, 4), (0, 6))), True)

    def test_wrong_arguments(self):
        lengths = [(value, errors.BadLength()) for value in wrong_numbers(1, 20)]
        for call in (equal_starts, refusal):
            self.assert_wrong_arguments(call, (((0, 5), (1, 3)), 2), [wrong_pair_jobs(errors), lengths])
        self.assert_wrong_arguments(shows_starts, (((0, 5), (1, 3)), 2, (3, 1)), [wrong_pair_jobs(errors), lengths])
        self.assert_wrong_arguments(shows_refusal, (((0, 5), (1, 3)), 2, ((1, 3),)), [wrong_pair_jobs(errors), lengths])


class JudgeTest(Checks, unittest.TestCase):
    def test_starts_that_are_bent(self):
        rng = rng_of(122)
        counts = [0, 0]
        for _ in range(400):
            jobs, length = random_jobs(rng, most=5)
            starts = equal_starts(jobs, length)
            if starts is None:
                starts = tuple(arrival for arrival, _ in jobs)
            for value in bent_tuples(rng, starts):
                wanted = plain_starts(jobs, length, value)
                self.assertIs(self.assert_steady(shows_starts, jobs, length, value), wanted, (jobs, length, value))
                counts[wanted] += 1
        self.assertGreater(min(counts), 500)

    def test_edges_of_starts(self):
        jobs = ((2, 9), (0, 9))
        for value in ((2, 5), (6, 0), (6, 3), (5, 2), (3, 0)):
            self.assertIs(shows_starts(jobs, 3, value), True)
        for value in ((1, 5), (7, 0), (2, 4), (3, 1), (2, 7), (5, -1), (3, 3), (6,), (6, 0, 3), [6, 0], ()):
            self.assertIs(shows_starts(jobs, 3, value), False)
        # False is not 0 and True is not 1.
        self.assertIs(shows_starts(((0, 9), (0, 9)), 1, (0, 1)), True)
        for value in ((False, 1), (0, True), (10 ** 30, 0)):
            self.assertIs(shows_starts(((0, 9), (0, 9)), 1, value), False)

    def test_refusals_that_are_bent(self):
        rng = rng_of(123)
        counts = [0, 0]
        for _ in range(1200):
            jobs, length = random_jobs(rng, most=6)
            found = refusal(jobs, length)
            if found is None:
                continue
            rows = bent_tuples(rng, found)
            rows += [found + (found[0],), found[:1] + found, found[::-1], (found[-1],)]
            for value in rows:
                wanted = plain_refusal(jobs, length, value)
                self.assertIs(self.assert_steady(shows_refusal, jobs, length, value), wanted, (jobs, length, value))
                counts[wanted] += 1
        self.assertGreater(min(counts), 500)

    def test_windows_in_any_order(self):
        rng = rng_of(124)
        counts = {}
        for _ in range(3000):
            jobs, length = random_jobs(rng, most=4)
            ends = [time + step for job in jobs for time in job for step in (-1, 0, 0, 1)]
            value = tuple((rng.choice(ends), rng.choice(ends)) for _ in range(rng.randint(1, 3)))
            wanted = plain_refusal(jobs, length, value)
            self.assertIs(shows_refusal(jobs, length, value), wanted, (jobs, length, value))
            if wanted:
                self.assertIs(some_starts(jobs, length), False)
            counts[wanted] = counts.get(wanted, 0) + 1
        self.assertGreater(min(counts.values()), 25)

    def test_complete_too_early_or_never(self):
        jobs = ((0, 4), (1, 3))
        for value in (((0, 4),), ((1, 3),), ((0, 4), (1, 3)), ((1, 3), (0, 4), (0, 4)), ((1, 3), (0, 4), (5, 0)), (),
                      ((1, 3), (0, 4), None), ((2, 9), (0, 4)), ((1, 3), (0, 3), (1, 3), (0, 3))):
            self.assertIs(shows_refusal(jobs, 2, value), False, value)
        for value in (((1, 3), (0, 4)), ((1, 3), (1, 3), (0, 4)), ((0, 4), (1, 3), (0, 4)), ((1, 3), (0, 3), (0, 4))):
            self.assertIs(shows_refusal(jobs, 2, value), True, value)

    def test_windows_of_other_kinds_and_far_away(self):
        jobs = ((0, 4), (1, 3))
        for window in ANY_VALUES:
            if window not in ((0, 4), (1, 3)):
                self.assertIs(shows_refusal(jobs, 2, (window, (1, 3), (0, 4))), False, window)
        for window in ((True, 3), (1, 3, 0), [1, 3], ("1", 3), (1, None), (1, (3,)), (1.0, 3), (1,)):
            self.assertIs(shows_refusal(jobs, 2, (window, (0, 4))), False, window)
        for window in ((-10 ** 30, 10 ** 30), (0, 10 ** 30), (-10 ** 30, 4), (1, 10 ** 30)):
            self.assertIs(shows_refusal(jobs, 2, (window,)), False)
            self.assertIs(shows_refusal(jobs, 2, (window, (1, 3), (0, 4))), True)
        self.assertIs(shows_refusal(jobs, 2, ((10 ** 30, 10 ** 31),)), False)

    def test_values_of_other_kinds(self):
        jobs = ((50, 90), (60, 90))
        for value in ANY_VALUES:
            self.assertIs(self.assert_steady(shows_starts, jobs, 2, value), False)
            self.assertIs(self.assert_steady(shows_refusal, jobs, 2, value), False)


if __name__ == "__main__":
    unittest.main()
