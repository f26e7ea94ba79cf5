"""Points 38 and 39: supply tables, and the demand of tasks that they have to meet."""

import unittest
from fractions import Fraction
from itertools import product
from math import ceil, floor, lcm

from eventcore import errors
from eventcore.deadlines import demand
from eventcore.supply import (free_shift, greatest_supply, least_supply, reduced, table_missed, unserved_length)
from support import (ANY_VALUES, Checks, PATTERN_TASKS, hyper, is_whole, jobs_of, random_pattern, random_tasks, rate,
                     rng_of, run_jobs, wrong_lengths, wrong_patterns, wrong_tasks)


def random_table(rng, most=24):
    part = rng.choice((0, 0.1, 0.3, 0.5, 0.8, 1))
    table = tuple(int(rng.random() < part) for _ in range(rng.randint(1, most)))
    if rng.random() < 0.3:
        table = (table * 24)[:len(table) * rng.randint(1, 24 // len(table))]
    if rng.random() < 0.2:
        place = rng.randrange(len(table))
        table = table[:place] + (1 - table[place],) + table[place + 1:]
    return table


def wrong_tables(errors):
    bad = [value for value in ANY_VALUES
           if type(value) is not tuple or not value or not all(is_whole(entry, 0, 1) for entry in value)]
    bad += [(0, 2), (-1, 0), (1, True), (False, 1), (1, None), (1, "0"), (1, (0,)), [1, 0], (1,) * 25, (0,) * 25,
            (1, 0, 2), (10 ** 30,), "10", {0: 1}]
    return [(value, errors.BadTable()) for value in bad]


def supplies(table, window):
    """The numbers of ones in all windows, unit by unit."""
    return [sum(table[unit % len(table)] for unit in range(start, start + window)) for start in range(len(table))]


class SupplyTest(Checks, unittest.TestCase):
    def test_random_tables(self):
        rng = rng_of(380)
        for _ in range(300):
            table = random_table(rng)
            for window in {0, 1, rng.randint(0, 24), len(table), len(table) - 1, len(table) + 1, rng.randint(0, 500)}:
                numbers = supplies(table, window)
                self.assert_same(self.assert_steady(least_supply, table, window), min(numbers))
                self.assert_same(self.assert_steady(greatest_supply, table, window), max(numbers))

    def test_all_small_tables(self):
        for size in range(1, 6):
            for table in product((0, 1), repeat=size):
                for window in range(13):
                    numbers = supplies(table, window)
                    self.assertEqual(least_supply(table, window), min(numbers))
                    self.assertEqual(greatest_supply(table, window), max(numbers))

    def test_small_cases(self):
        self.assert_same(least_supply((1, 1, 0, 0), 3), 1)
        self.assert_same(greatest_supply((1, 1, 0, 0), 3), 2)
        # Over the end of the table.
        self.assert_same(greatest_supply((1, 0, 0, 1), 2), 2)
        self.assert_same(least_supply((0, 1, 1, 0), 2), 0)
        for window in (0, 1, 500):
            self.assert_same(least_supply((1,), window), window)
            self.assert_same(greatest_supply((0,), window), 0)
            self.assert_same(least_supply((1,) * 24, window), window)
            self.assert_same(greatest_supply((0,) * 24, window), 0)
        self.assert_same(least_supply((1,) + (0,) * 23, 500), 20)
        self.assert_same(greatest_supply((1,) + (0,) * 23, 500), 21)

    def test_wrong_arguments(self):
        wrong = [wrong_tables(errors), [(value, errors.BadLength()) for value in wrong_lengths(500)]]
        for call in (least_supply, greatest_supply):
            self.assert_wrong_arguments(call, ((1, 0), 500), wrong)
            call((1, 0), 0)
            self.assert_error(errors.BadLength(), call, (1, 0), 501)


class ReducedTest(Checks, unittest.TestCase):
    def plain(self, table):
        for size in range(1, len(table) + 1):
            if all(table[unit % len(table)] == table[unit % size] for unit in range(24 * 24)):
                return table[:size]

    def test_random_tables(self):
        rng = rng_of(381)
        sizes = {}
        for _ in range(500):
            table = random_table(rng)
            short = self.assert_steady(reduced, table)
            self.assert_same(short, self.plain(table))
            sizes[len(short) < len(table)] = True
            self.assert_same(reduced(short), short)
        self.assertEqual(len(sizes), 2)

    def test_all_small_tables(self):
        for size in range(1, 9):
            for table in product((0, 1), repeat=size):
                self.assert_same(reduced(table), self.plain(table))

    def test_repeated_and_nearly_repeated_words(self):
        self.assert_same(reduced((1, 0, 1, 0)), (1, 0))
        self.assert_same(reduced((0, 1, 0, 1)), (0, 1))
        self.assert_same(reduced((1, 0, 1)), (1, 0, 1))
        self.assert_same(reduced((1, 0, 1, 0, 1)), (1, 0, 1, 0, 1))
        self.assert_same(reduced((0, 0, 1) * 8), (0, 0, 1))
        self.assert_same(reduced((0, 0, 1) * 7 + (0, 0, 0)), (0, 0, 1) * 7 + (0, 0, 0))
        self.assert_same(reduced((0,) * 24), (0,))
        self.assert_same(reduced((1,) * 23), (1,))
        self.assert_same(reduced((0,) * 23 + (1,)), (0,) * 23 + (1,))

    def test_wrong_arguments(self):
        self.assert_wrong_arguments(reduced, ((1, 0),), [wrong_tables(errors)])


class ShiftTest(Checks, unittest.TestCase):
    def plain(self, table, other):
        """The least shift, of all units of a common repetition, by the units that both tables name."""
        whole = lcm(len(table), len(other))
        own = {unit for unit in range(whole) if table[unit % len(table)]}
        for shift in range(whole):
            if not any((unit + shift) % whole in own for unit in range(whole) if other[unit % len(other)]):
                return shift
        return None

    def test_random_tables(self):
        rng = rng_of(382)
        found = {}
        for _ in range(400):
            table, other = random_table(rng), random_table(rng)
            wanted = self.plain(table, other)
            self.assert_same(self.assert_steady(free_shift, table, other), wanted)
            found[wanted] = True
        self.assertGreater(len(found), 4)

    def test_all_small_tables(self):
        tables = [table for size in range(1, 5) for table in product((0, 1), repeat=size)]
        for table in tables:
            for other in tables:
                self.assert_same(free_shift(table, other), self.plain(table, other))

    def test_small_cases(self):
        self.assert_same(free_shift((1, 0, 0), (1, 0, 0)), 1)
        self.assert_same(free_shift((0, 1, 1), (1, 0, 0)), 0)
        # It is the second table that moves to the right.
        self.assert_same(free_shift((1, 1, 0), (1, 0, 0)), 2)
        self.assert_same(free_shift((1, 1, 0), (0, 1, 0)), 1)
        self.assert_same(free_shift((1,), (1,)), None)
        self.assert_same(free_shift((1,), (0,)), 0)
        self.assert_same(free_shift((0,), (1,)), 0)
        self.assert_same(free_shift((1, 0), (1, 0, 0)), None)
        self.assert_same(free_shift((1, 0), (1, 0, 0, 0)), 1)
        self.assert_same(free_shift((1,) + (0,) * 23, (0,) * 23 + (1,)), 0)
        self.assert_same(free_shift((0,) + (1,) * 23, (0,) * 23 + (1,)), 1)
        self.assert_same(free_shift((1,) * 23 + (0,), (1,) + (0,) * 23), 23)

    def test_wrong_arguments(self):
        self.assert_wrong_arguments(free_shift, ((1, 0), (0, 1)), [wrong_tables(errors), wrong_tables(errors)])


def bound_of(table, tasks):
    """The bound of point 39, with ratios."""
    share, rates = Fraction(sum(table), len(table)), rate(tasks)
    if rates < share:
        return ceil((sum(cost for cost, _, _ in tasks) + len(table)) / (share - rates))
    if rates == share:
        return max(deadline for _, deadline, _ in tasks) + lcm(hyper(tasks), len(table))
    return 1 + floor(sum(Fraction(cost * deadline, gap) for cost, deadline, gap in tasks) / (rates - share))


class UnservedTest(Checks, unittest.TestCase):
    def least(self, table, tasks, most=5000):
        """The least length up to most with more demand than supply, job by job and unit by unit."""
        ones = sorted(table[start:] + table[:start] for start in range(len(table)))
        counts = [0] * len(ones)
        for length in range(1, most + 1):
            for row in range(len(ones)):
                counts[row] += ones[row][(length - 1) % len(table)]
            work = 0
            for cost, deadline, gap in tasks:
                work += cost * len(range(deadline, length + 1, gap))
            if work > min(counts):
                return length
        return None

    def check(self, table, tasks):
        found, bound = self.least(table, tasks), bound_of(table, tasks)
        if found is None and bound > 5000:
            self.assert_error(errors.TooMany(5000), unserved_length, table, tasks)
            return "too many"
        self.assert_same(self.assert_steady(unserved_length, table, tasks), found)
        self.assertTrue(found is None or found <= bound)
        return "none" if found is None else "some"

    def test_random_tables(self):
        rng = rng_of(390)
        counts = {}
        for _ in range(200):
            table = random_table(rng, most=8)
            tasks = random_tasks(rng, most=3, most_cost=3, most_gap=rng.choice((12, 40)), most_deadline=60)
            if rng.random() < 0.5:
                # Deadlines that leave time.
                tasks = tuple((cost, rng.randint(30, 60), gap) for cost, _, gap in tasks)
            else:
                table = tuple(max(entry, rng.randint(0, 1)) for entry in table)
                tasks = tuple((cost, rng.randint(1, 12), gap) for cost, _, gap in tasks)
            share = Fraction(sum(table), len(table))
            key = (self.check(table, tasks), (rate(tasks) > share) - (rate(tasks) < share))
            counts[key] = counts.get(key, 0) + 1
        for key in (("none", -1), ("some", -1), ("some", 1)):
            self.assertGreater(counts.get(key, 0), 15, counts)

    def test_equal_rates(self):
        rng = rng_of(391)
        counts = {}
        for _ in range(250):
            size = rng.choice((2, 3, 4, 6, 8))
            table = tuple(rng.sample((1,) * (size // 2) + (0,) * (size - size // 2), size))
            gaps = [size * rng.randint(1, 3) for _ in range(rng.randint(1, 2))]
            share = Fraction(sum(table), size) / len(gaps)
            if any((share * gap).denominator > 1 or share * gap > 20 for gap in gaps):
                continue
            tasks = tuple((int(share * gap), rng.randint(1, 60), gap) for gap in gaps)
            self.assertEqual(rate(tasks), Fraction(sum(table), size))
            key = self.check(table, tasks)
            counts[key] = counts.get(key, 0) + 1
        self.assertGreater(min(counts["none"], counts["some"]), 20)

    def test_small_cases(self):
        self.assert_same(unserved_length((1,), ((1, 1, 1),)), None)
        self.assert_same(unserved_length((1, 0), ((1, 2, 2),)), None)
        self.assert_same(unserved_length((1, 0), ((1, 1, 2),)), 1)
        self.assert_same(unserved_length((1, 1, 0, 0), ((2, 4, 4),)), None)
        self.assert_same(unserved_length((1, 1, 0, 0), ((2, 3, 4),)), 3)
        self.assert_same(unserved_length((1, 0), ((1, 60, 1),)), self.least((1, 0), ((1, 60, 1),)))
        # A table without a one: the first due time is unserved.
        for table in ((0,), (0,) * 24):
            self.assert_same(unserved_length(table, ((1, 60, 60), (1, 59, 60))), 59)
            self.assertEqual(self.check(table, ((20, 7, 60),)), "some")
        # With a one in each unit it is the least overfull length.
        self.assert_same(unserved_length((1, 1), ((2, 2, 4), (2, 3, 6))), 3)

    def test_bounds_at_5000(self):
        most = (0,) * 5 + (1,) + (0,) * 14 + (1, 0, 0)
        even = ((11, 50, 22), (9, 50, 45), (15, 50, 50))
        for table, tasks, bound in (((1, 1, 1, 0), ((15, 60, 24), (6, 60, 50)), 5000),
                                    ((1, 0), ((12, 60, 35), (9, 60, 59)), 5000),
                                    (most, ((2, 60, 31), (1, 60, 58)), 5001),
                                    # Equal rates.
                                    ((1,), even, 5000),
                                    ((1,), ((11, 51, 22), *even[1:]), 5001),
                                    ((1,), (*even[:2], (15, 51, 50)), 5001),
                                    ((1, 1, 0), ((1, 50, 50), (6, 50, 45), (11, 50, 33), (9, 50, 50)), 5000),
                                    # A greater rate, but no length up to 5000.
                                    ((1,), ((12, 60, 23), (12, 60, 35), (8, 60, 59)), 316694)):
            self.assertEqual(bound_of(table, tasks), bound)
            self.assertEqual(self.check(table, tasks), "none" if bound == 5000 else "too many")

    def test_least_lengths_at_5000(self):
        # With a one in each unit the unserved lengths are the overfull ones.
        tasks = ((2, 18, 22), (10, 39, 32), (18, 55, 43), (9, 49, 50))
        self.assertEqual(self.check((1,), tasks), "some")
        self.assert_same(unserved_length((1, 1), tasks), 5000)
        tasks = ((15, 50, 55), (1, 20, 21), (6, 29, 29), (9, 23, 19))
        self.assertEqual(self.least((1,), tasks, 5001), 5001)
        self.assertEqual(self.check((1,), tasks), "too many")

    def test_a_length_is_unserved_though_the_bound_is_great(self):
        for table, tasks in (((1,), ((20, 60, 41), (20, 1, 59), (9, 60, 52))),
                             ((1,), ((20, 40, 41), (20, 45, 59), (9, 30, 52))),
                             ((1,) * 23 + (0,), ((20, 60, 41), (20, 30, 59), (5, 20, 38)))):
            self.assertGreater(bound_of(table, tasks), 5000)
            self.assertEqual(self.check(table, tasks), "some")

    def test_wrong_arguments(self):
        self.assert_wrong_arguments(unserved_length, ((1, 0), ((1, 4, 4), (1, 5, 6))),
                                    [wrong_tables(errors), wrong_tasks(errors)])

    def test_no_job_is_missed(self):
        rng = rng_of(392)
        served = 0
        for _ in range(250):
            table = random_table(rng, most=6)
            tasks = random_tasks(rng, most=3, most_cost=3, most_gap=12, most_deadline=20)
            if sum(table) == 0 or unserved_length(table, tasks) is not None:
                continue
            served += 1
            for _ in range(5):
                pattern = random_pattern(rng, tasks)
                self.assert_same(table_missed(table, rng.randint(0, 23), tasks, pattern), ())
        self.assertGreater(served, 25)

    def test_the_demand_of_an_unserved_length(self):
        self.assertEqual(demand(((2, 3, 4),), 3), 2)
        self.assertEqual(least_supply((1, 1, 0, 0), 3), 1)


def plain_table_missed(table, shift, tasks, pattern):
    """The missed jobs, if only the units with a one count: in each of them the job with the smallest due time runs."""
    jobs = jobs_of(tasks, pattern)
    left = list(jobs)
    unit = 0
    while left:
        if table[(unit + shift) % len(table)] == 1:
            ready = [job for job in left if job.arrival <= unit
                     and not any(other.task == job.task and other.number < job.number for other in left)]
            if ready:
                best = min(ready, key=lambda job: (job.due, job.task))
                best.left -= 1
                if best.left == 0:
                    best.finish = unit + 1
                    left.remove(best)
        unit += 1
    return tuple(sorted((job.task, job.number) for job in jobs if job.finish > job.due))


class TableMissedTest(Checks, unittest.TestCase):
    def test_random_tables(self):
        rng = rng_of(393)
        counts = {}
        for _ in range(400):
            table = random_table(rng, most=rng.choice((4, 24)))
            if sum(table) == 0:
                continue
            tasks = random_tasks(rng, most=4, most_cost=4, most_deadline=30)
            pattern = random_pattern(rng, tasks)
            shift = rng.randint(0, 23)
            wanted = plain_table_missed(table, shift, tasks, pattern)
            self.assert_same(self.assert_steady(table_missed, table, shift, tasks, pattern), wanted)
            counts[len(wanted) > 0] = counts.get(len(wanted) > 0, 0) + 1
        self.assertGreater(min(counts.values()), 60)

    def test_each_shift(self):
        table = (1, 0, 0, 1, 1, 0, 0)
        tasks = ((2, 4, 5), (1, 3, 6))
        pattern = ((0, 5, 11), (1, 7))
        found = {}
        for shift in range(24):
            wanted = plain_table_missed(table, shift, tasks, pattern)
            self.assert_same(table_missed(table, shift, tasks, pattern), wanted)
            found[wanted] = True
        self.assertGreater(len(found), 2)
        self.assert_same(table_missed((1, 0), 1, ((2, 3, 9),), ((0,),)), ((0, 0),))
        self.assert_same(table_missed((1, 0), 0, ((2, 3, 9),), ((0,),)), ())
        self.assert_same(table_missed((1, 0), 23, ((2, 3, 9),), ((0,),)), ((0, 0),))
        self.assert_same(table_missed((0, 0, 1), 0, ((1, 3, 9), (1, 3, 9)), ((0,), (0,))), ((1, 0),))
        self.assert_same(table_missed((1,), 5, ((1, 3, 9), (1, 3, 9)), ((), ())), ())

    def test_with_a_one_in_each_unit(self):
        rng = rng_of(394)
        for _ in range(50):
            tasks = random_tasks(rng)
            pattern = random_pattern(rng, tasks)
            jobs = jobs_of(tasks, pattern)
            run_jobs(jobs, ("deadline",))
            late = tuple(sorted((job.task, job.number) for job in jobs if job.finish > job.due))
            self.assert_same(table_missed((1,) * rng.randint(1, 24), rng.randint(0, 23), tasks, pattern), late)

    def test_wrong_arguments(self):
        tables = wrong_tables(errors) + [((0,), errors.BadTable()), ((0,) * 24, errors.BadTable())]
        wrong = [tables, [(value, errors.BadLength()) for value in wrong_lengths(23)]]
        good = ((1, 0), 23, PATTERN_TASKS, ((0, 5), (3,)))
        self.assert_wrong_arguments(table_missed, good, wrong + [wrong_tasks(errors), wrong_patterns(errors)])
        # The task set is asked before the pattern.
        self.assert_error(errors.BadTasks(0), table_missed, (1, 0), 0, ((0, 1, 1),), None)
        self.assert_error(errors.BadTable(), table_missed, (0, 0), 24, None, None)
        self.assert_error(errors.BadLength(), table_missed, (0, 1), 24, None, None)
        # A table without a one is allowed elsewhere.
        self.assert_same(reduced((0, 0)), (0,))


if __name__ == "__main__":
    unittest.main()
