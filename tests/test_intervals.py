"""Point 31: intervals of units, machines for them, and the most valuable ones."""

import unittest
from itertools import combinations, product

from eventcore import errors
from eventcore.intervals import best_intervals, crowded_unit, interval_machines
from support import ANY_VALUES, Checks, is_pair_of, is_whole, other_kinds, rng_of, same, wrong_machines, wrong_things


def units_of(interval):
    return set(range(interval[0], interval[1]))


def crowds(intervals):
    """The number of the intervals that contain each unit."""
    counts = [0] * 101
    for interval in intervals:
        for unit in units_of(interval):
            counts[unit] += 1
    return counts


def random_intervals(rng, most=8):
    spread, longest = rng.choice((4, 12, 90)), rng.choice((1, 3, 10))
    rows = []
    for _ in range(rng.randint(1, most)):
        begin = rng.randint(0, spread)
        rows.append((begin, begin + rng.randint(1, longest)))
    return tuple(rows)


class IntervalsTest(Checks, unittest.TestCase):
    def check(self, intervals):
        machines = self.assert_steady(interval_machines, intervals)
        unit = self.assert_steady(crowded_unit, intervals)
        counts = crowds(intervals)
        self.assertEqual(counts.index(max(counts)), unit)
        self.assertIs(type(unit), int)
        self.assertIs(type(machines), tuple)
        self.assertEqual(len(machines), len(intervals))
        self.assertTrue(all(type(machine) is int for machine in machines))
        self.assertEqual(sorted(set(machines)), list(range(max(counts))), (intervals, machines))
        for one, other in combinations(range(len(intervals)), 2):
            if units_of(intervals[one]) & units_of(intervals[other]):
                self.assertNotEqual(machines[one], machines[other], (intervals, machines))
        return max(counts)

    def test_random_intervals(self):
        rng = rng_of(310)
        found = {self.check(random_intervals(rng)) for _ in range(800)}
        self.assertEqual(found, set(range(1, 9)))

    def test_touching_and_equal_intervals(self):
        self.assert_same(interval_machines(((0, 5), (5, 9), (9, 100))), (0, 0, 0))
        self.assert_same(interval_machines(((9, 100), (5, 9), (0, 5))), (0, 0, 0))
        self.assert_same(crowded_unit(((5, 9), (9, 100), (2, 5))), 2)
        self.assertEqual(sorted(interval_machines(((3, 4),) * 8)), list(range(8)))
        self.assert_same(crowded_unit(((3, 4),) * 8), 3)
        self.assertEqual(sorted(interval_machines(((0, 6), (5, 9)))), [0, 1])
        self.assert_same(crowded_unit(((0, 6), (5, 9))), 5)
        self.assert_same(crowded_unit(((0, 6), (5, 9), (99, 100), (98, 100))), 5)
        self.assert_same(crowded_unit(((99, 100), (98, 100), (5, 9))), 99)
        self.assert_same(crowded_unit(((0, 100),)), 0)
        self.assert_same(crowded_unit(((99, 100),)), 99)
        self.assert_same(interval_machines(((99, 100),)), (0,))
        self.check(((0, 100), (0, 1), (1, 2), (2, 3), (3, 4), (4, 5), (5, 6), (6, 7)))

    def test_all_small_sets(self):
        kinds = [(begin, end) for begin in range(3) for end in range(begin + 1, 4)]
        for many in range(1, 5):
            for intervals in product(kinds, repeat=many):
                self.check(intervals)


class BestIntervalsTest(Checks, unittest.TestCase):
    def plain(self, intervals, weights, machines):
        best = 0
        for many in range(1, len(intervals) + 1):
            for members in combinations(range(len(intervals)), many):
                if max(crowds([intervals[index] for index in members])) <= machines:
                    best = max(best, sum(weights[index] for index in members))
        return best

    def check(self, intervals, weights, machines, best):
        found = self.assert_steady(best_intervals, intervals, weights, machines)
        self.assertIs(type(found), tuple)
        self.assertTrue(all(is_whole(index, 0, len(intervals) - 1) for index in found))
        self.assertEqual(list(found), sorted(set(found)))
        self.assertLessEqual(max(crowds([intervals[index] for index in found])), machines)
        self.assertEqual(sum(weights[index] for index in found), best, (intervals, weights, machines, found))

    def test_random_intervals(self):
        rng = rng_of(311)
        cut = 0
        for _ in range(200):
            intervals, most, machines = random_intervals(rng), rng.choice((1, 4, 100)), rng.choice((1, 1, 2, 3, 4))
            weights = tuple(rng.randint(0, most) for _ in intervals)
            best = self.plain(intervals, weights, machines)
            self.check(intervals, weights, machines, best)
            cut += best < sum(weights)
        self.assertGreater(cut, 40)

    def test_small_cases(self):
        self.assert_same(best_intervals(((0, 5),), (100,), 1), (0,))
        self.assert_same(best_intervals(((0, 5), (4, 9)), (3, 4), 1), (1,))
        self.assert_same(best_intervals(((0, 5), (5, 9)), (3, 4), 1), (0, 1))
        self.assert_same(best_intervals(((0, 5), (4, 9)), (3, 4), 2), (0, 1))
        self.assert_same(best_intervals(((0, 5), (4, 9)), (3, 4), 4), (0, 1))
        # Two short intervals against a long one, and the other way round.
        self.assert_same(best_intervals(((0, 3), (3, 9), (2, 5)), (3, 4, 6), 1), (0, 1))
        self.assert_same(best_intervals(((0, 3), (3, 9), (2, 5)), (3, 4, 8), 1), (2,))
        self.assert_same(best_intervals(((0, 3), (3, 9), (2, 5)), (3, 4, 8), 2), (0, 1, 2))
        self.check(((0, 9),) * 8, (1, 2, 3, 4, 5, 6, 7, 8), 1, 8)
        self.check(((0, 9),) * 8, (1, 2, 3, 4, 5, 6, 7, 8), 4, 26)
        self.check(((0, 9),) * 8, (5,) * 8, 3, 15)

    def test_weights_of_zero(self):
        self.check(((0, 5), (4, 9)), (0, 0), 1, 0)
        self.check(((0, 5), (4, 9)), (0, 3), 1, 3)
        self.check(((0, 5), (4, 9), (9, 10)), (0, 3, 0), 1, 3)


class WrongArgumentsTest(Checks, unittest.TestCase):
    def wrong_intervals(self):
        bad = other_kinds(lambda value: is_pair_of(value, (0, 100), (0, 100)) and value[0] < value[1])
        bad += [(5, 5), (5, 4), (-1, 4), (0, 101), (101, 102), (0, True), (False, 5), (0, None), (0, 5, 9), [0, 5],
                (0, "5"), ((0, 5),), (0,), (100, 100)]
        return wrong_things(errors.BadIntervals, (0, 5), bad, 8)

    def test_intervals(self):
        for call in (interval_machines, crowded_unit):
            self.assert_wrong_arguments(call, (((0, 5),),), [self.wrong_intervals()])
            call(((0, 1), (0, 100), (99, 100)))

    def test_weights_and_machines(self):
        weights = [value for value in ANY_VALUES if not any(same(value, good) for good in ((0, 1),))]
        weights += [(0,), (0, 1, 2), (0, 101), (-1, 1), (101, 0), (0, True), (False, 1), (0, None), [0, 1], (0, "1"),
                    ((0,), 1), "01", {0: 0, 1: 1}]
        wrong = [self.wrong_intervals(), [(value, errors.BadWeights()) for value in weights], wrong_machines(errors)]
        self.assert_wrong_arguments(best_intervals, (((0, 5), (5, 9)), (0, 100), 1), wrong)
        self.assert_error(errors.BadWeights(), best_intervals, ((0, 5),), (1, 1), 1)
        self.assert_error(errors.BadWeights(), best_intervals, ((0, 5),), (), 1)


if __name__ == "__main__":
    unittest.main()
