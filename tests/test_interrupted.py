"""Point 21: long jobs that may be interrupted on one machine."""

import unittest

from eventcore import errors
from eventcore.interrupted import full_window, least_lateness, shows_units, unit_schedule
from support import (ANY_VALUES, Checks, bent_tuples, plain_units, random_long_jobs, rng_of, units_exist,
                     wrong_long_jobs)


def plain_full_window(jobs):
    """The least full window, window by window, over all numbers that may be one."""
    for first in range(101):
        for last in range(101):
            inside = [length for arrival, length, due in jobs if arrival >= first and due <= last]
            known = first in [job[0] for job in jobs] and last in [job[2] for job in jobs]
            if known and sum(inside) > last - first and (inside or last >= first):
                return (first, last)
    return None


class UnitScheduleTest(Checks, unittest.TestCase):
    def test_example(self):
        answers = [full_window(((0, 3, 3), (1, 1, 3))), full_window(((5, 1, 4),)),
                   least_lateness(((0, 3, 9), (1, 2, 4), (2, 1, 4)))]
        self.assert_same(answers, [(0, 3), (5, 4), 0])

    def test_random_jobs(self):
        rng = rng_of(210)
        counts = {}
        for _ in range(500):
            jobs = random_long_jobs(rng, most=rng.choice((2, 4, 7)), most_length=4, spread=9, slack=rng.choice((3, 9)))
            wanted = units_exist(jobs)
            units = self.assert_steady(unit_schedule, jobs)
            self.assertEqual(units is not None, wanted, jobs)
            if wanted:
                self.assertTrue(plain_units(jobs, units), (jobs, units))
                self.assertIs(shows_units(jobs, units), True)
            window = self.assert_steady(full_window, jobs)
            self.assert_same(window, plain_full_window(jobs))
            self.assertEqual(window is None, wanted)
            key = "fits" if wanted else "negative" if window[1] < window[0] else "full"
            counts[key] = counts.get(key, 0) + 1
        for key in ("fits", "full"):
            self.assertGreater(counts[key], 100)

    def test_large_jobs(self):
        rng = rng_of(211)
        counts = [0, 0]
        for _ in range(400):
            jobs = random_long_jobs(rng, most=7, most_length=20, spread=rng.choice((20, 80)), slack=60)
            units = unit_schedule(jobs)
            counts[units is None] += 1
            self.assert_same(full_window(jobs), plain_full_window(jobs))
            self.assertEqual(units is None, full_window(jobs) is not None)
            if units is not None:
                self.assertTrue(plain_units(jobs, units), (jobs, units))
        self.assertGreater(min(counts), 50)

    def test_small_cases(self):
        self.assert_same(unit_schedule(((0, 2, 2),)), (0, 0))
        self.assert_same(unit_schedule(((3, 1, 4),)), (None, None, None, 0))
        self.assert_same(unit_schedule(((3, 1, 3),)), None)
        self.assert_same(unit_schedule(((0, 3, 5), (1, 2, 3))), (0, 1, 1, 0, 0))
        self.assert_same(unit_schedule(((0, 3, 4), (1, 2, 3))), None)
        self.assert_same(unit_schedule(((80, 20, 100),)), (None,) * 80 + (0,) * 20)

    def test_full_windows(self):
        for jobs, wanted in ((((0, 2, 2),), None), (((0, 3, 2),), (0, 2)), (((4, 1, 4),), (4, 4)),
                             (((4, 1, 3),), (4, 3)), (((100, 1, 0),), (100, 0)),
                             # The least first, and then the least last; a window need not be that of one job.
                             (((5, 3, 7), (1, 3, 3)), (1, 3)), (((0, 3, 9), (1, 5, 8), (2, 4, 9)), (0, 9)),
                             (((2, 2, 5), (1, 2, 4), (0, 2, 9)), None), (((2, 2, 4), (1, 2, 4), (0, 2, 9)), (1, 4)),
                             (((0, 2, 4), (2, 2, 3)), (2, 3)), (((0, 2, 2), (1, 1, 2)), (0, 2)),
                             # A window of negative size without a job does not count.
                             (((0, 2, 2), (9, 2, 11)), None), (((9, 2, 11), (0, 3, 2)), (0, 2)),
                             # With a job it does, and windows around it are full too if they are small enough.
                             (((5, 1, 3), (4, 1, 9)), (4, 3)), (((5, 1, 3), (0, 1, 9)), (5, 3)),
                             (((5, 9, 3), (0, 1, 9)), (0, 3))):
            self.assert_same(full_window(jobs), wanted)

    def test_judge(self):
        rng = rng_of(212)
        counts = [0, 0]
        for _ in range(300):
            jobs = random_long_jobs(rng, most=4, most_length=4, spread=6, slack=12)
            units = unit_schedule(jobs)
            if units is None:
                continue
            rows = bent_tuples(rng, units)
            rows += [units + (None,), (None,) + units, units[:-1] + (None, units[-1]), units[::-1]]
            for _ in range(10):
                one, other = rng.randrange(len(units)), rng.randrange(len(units))
                row = list(units)
                row[one], row[other] = row[other], row[one]
                rows.append(tuple(row))
            for value in rows:
                wanted = plain_units(jobs, value)
                self.assertIs(self.assert_steady(shows_units, jobs, value), wanted, (jobs, value))
                counts[wanted] += 1
        self.assertGreater(min(counts), 300)

    def test_values_of_other_kinds(self):
        for value in ANY_VALUES:
            self.assertIs(self.assert_steady(shows_units, ((50, 1, 90), (60, 1, 90)), value), False)
        jobs = ((0, 1, 9), (0, 1, 9))
        for value in ((0, 1), (1, 0), (None, 0, None, 1)):
            self.assertIs(shows_units(jobs, value), True)
        for value in ((False, 1), (0, True), (0, 1, None), (0,), (0, 1, 0), (0, 2), (0, -1), [0, 1], (0, "1"),
                      (0, (1,)), ((0, 1),), (0, [1]), (None,) * 9 + (0, 1)):
            self.assertIs(shows_units(jobs, value), False)

    def test_wrong_arguments(self):
        for call in (unit_schedule, full_window, least_lateness):
            self.assert_wrong_arguments(call, (((0, 2, 5),),), [wrong_long_jobs(errors)])
        self.assert_wrong_arguments(shows_units, (((0, 2, 5),), (0, 0)), [wrong_long_jobs(errors)])


class LeastLatenessTest(Checks, unittest.TestCase):
    def test_random_jobs(self):
        rng = rng_of(213)
        counts = {}
        for _ in range(300):
            jobs = random_long_jobs(rng, most=5, most_length=4, spread=8, slack=rng.choice((2, 12)))
            found = self.assert_steady(least_lateness, jobs)
            for lateness, wanted in ((found, True), (found - 1, False), (found + 1, True)):
                later = tuple((arrival, length, due + lateness) for arrival, length, due in jobs)
                self.assertEqual(units_exist(later), wanted, (jobs, lateness))
            self.assertEqual(found <= 0, unit_schedule(jobs) is not None)
            key = (found > 0) - (found < 0)
            counts[key] = counts.get(key, 0) + 1
        self.assertEqual(len(counts), 3)
        self.assertGreater(min(counts.values()), 15)

    def test_small_cases(self):
        self.assert_same(least_lateness(((0, 1, 100),)), -99)
        self.assert_same(least_lateness(((100, 20, 0),)), 120)
        self.assert_same(least_lateness(((0, 2, 3), (0, 2, 3))), 1)
        self.assert_same(least_lateness(((0, 5, 20), (2, 2, 4))), -13 + 13)
        self.assert_same(least_lateness(((0, 5, 20), (2, 2, 9))), -5)


if __name__ == "__main__":
    unittest.main()
