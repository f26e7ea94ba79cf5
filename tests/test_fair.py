"""Point 28: fair schedules."""

import unittest
from fractions import Fraction
from math import lcm

from eventcore import errors
from eventcore.fair import fair_schedule, shows_fair
from support import ANY_VALUES, Checks, bent_tuples, rng_of, wrong_machines, wrong_pairs


def cycle_of(pairs):
    return lcm(*[gap for _, gap in pairs])


def plain_fair(pairs, machines, value):
    """What point 28 says of a fair schedule, with exact fractions."""
    if type(value) is not tuple or len(value) != cycle_of(pairs):
        return False
    for row in value:
        if type(row) is not tuple or len(row) > machines or any(type(index) is not int for index in row):
            return False
        if any(not 0 <= index < len(pairs) for index in row) or list(row) != sorted(set(row)):
            return False
    for index, (cost, gap) in enumerate(pairs):
        for time in range(len(value) + 1):
            if abs(sum(index in row for row in value[:time]) - Fraction(time * cost, gap)) >= 1:
                return False
    return True


def random_pairs(rng, gaps):
    rows = []
    for _ in range(rng.randint(1, 4)):
        gap = rng.choice(gaps)
        rows.append((rng.randint(1, gap), gap))
    return tuple(rows)


class FairScheduleTest(Checks, unittest.TestCase):
    def check(self, pairs, machines):
        """The schedule is there exactly if the sum of cost divided by gap allows it; returns the sum."""
        share = sum(Fraction(cost, gap) for cost, gap in pairs)
        units = self.assert_steady(fair_schedule, pairs, machines)
        self.assertEqual(units is not None, share <= machines, (pairs, machines))
        if units is not None:
            self.assertTrue(plain_fair(pairs, machines, units), (pairs, machines, units))
            self.assertIs(shows_fair(pairs, machines, units), True)
        return share

    def test_random_pairs(self):
        rng = rng_of(280)
        counts = {}
        for _ in range(500):
            pairs = random_pairs(rng, rng.choice(((2, 3, 4, 6, 12), (5, 10), (3, 4, 5), (1, 2, 7), (8,), (9, 3, 6))))
            machines = rng.randint(1, 4)
            share = self.check(pairs, machines)
            key = (share > machines) - (share < machines)
            counts[key] = counts.get(key, 0) + 1
        self.assertEqual(len(counts), 3)
        self.assertGreater(min(counts.values()), 20)

    def test_sums_around_the_number_of_machines(self):
        for pairs, machines in ((((1, 2), (1, 3), (1, 6)), 1), (((1, 2), (1, 3), (1, 5)), 1), (((2, 3),) * 3, 2),
                                (((2, 3), (2, 3), (3, 4)), 2), (((3, 4),) * 4, 3),
                                (((5, 6), (5, 6), (5, 6), (1, 2)), 3),
                                (((11, 12), (7, 12), (6, 12)), 2), (((1, 1),) * 4, 4), (((1, 1),) * 4, 3),
                                (((7, 12), (5, 12)), 1), (((7, 12), (6, 12)), 1), (((1, 12), (1, 10), (1, 4)), 1)):
            self.check(pairs, machines)

    def test_small_cases(self):
        self.assert_same(fair_schedule(((1, 1),), 1), ((0,),))
        self.assert_same(fair_schedule(((2, 2),), 3), ((0,), (0,)))
        self.assert_same(fair_schedule(((1, 1), (1, 1)), 1), None)
        self.assert_same(fair_schedule(((1, 1), (2, 2)), 2), ((0, 1), (0, 1)))
        self.assertIn(fair_schedule(((1, 2), (1, 2)), 1), (((0,), (1,)), ((1,), (0,))))
        # A cost and a gap with a common divisor: the cycle is as long as the gap.
        self.assertEqual(len(fair_schedule(((6, 12),), 1)), 12)

    def test_the_length_of_the_cycle(self):
        for pairs in (((1, 12), (1, 5)), ((3, 10), (1, 4), (1, 6)), ((1, 3), (1, 4), (2, 5)),
                      ((11, 12), (9, 10), (1, 1))):
            self.assertEqual(cycle_of(pairs), 60)
            self.check(pairs, 2)
            self.assertIs(shows_fair(pairs, 2, ()), False)
        for pairs in (((1, 9), (1, 7)), ((1, 12), (1, 11)), ((1, 8), (1, 9)),
                      ((1, 5), (1, 7), (1, 2)), ((1, 11), (1, 6))):
            self.assertGreater(cycle_of(pairs), 60)
            self.assert_error(errors.TooMany(60), fair_schedule, pairs, 2)
            self.assert_error(errors.TooMany(60), shows_fair, pairs, 2, ())
            self.assert_error(errors.TooMany(60), shows_fair, pairs, 2, None)
            self.assert_error(errors.BadMachines(), fair_schedule, pairs, 5)
            self.assert_error(errors.BadMachines(), shows_fair, pairs, 0, None)
        # It is raised even where the sum is too great.
        self.assert_error(errors.TooMany(60), fair_schedule, ((9, 9), (8, 8)), 1)

    def test_judge(self):
        rng = rng_of(281)
        counts = [0, 0]
        for _ in range(200):
            pairs = random_pairs(rng, rng.choice(((2, 3, 6), (4, 5), (3, 4), (2, 7))))
            machines = rng.randint(1, 4)
            units = fair_schedule(pairs, machines)
            if units is None:
                continue
            rows = bent_tuples(rng, units) + [units[1:] + units[:1], units[::-1], units + units, units + ((),)]
            for _ in range(12):
                one, other = rng.randrange(len(units)), rng.randrange(len(units))
                row = list(units)
                row[one], row[other] = row[other], row[one]
                rows.append(tuple(row))
            for value in rows:
                wanted = plain_fair(pairs, machines, value)
                self.assertIs(self.assert_steady(shows_fair, pairs, machines, value), wanted, (pairs, machines, value))
                counts[wanted] += 1
        self.assertGreater(min(counts), 200)

    def test_all_schedules_of_a_small_cycle(self):
        pairs = ((1, 2), (3, 4))
        rows = ((), (0,), (1,), (0, 1))
        found = 0
        for number in range(256):
            value = tuple(rows[number // 4 ** place % 4] for place in range(4))
            for machines in (1, 2):
                wanted = plain_fair(pairs, machines, value)
                self.assertIs(shows_fair(pairs, machines, value), wanted)
                found += wanted
        self.assertGreater(found, 1)

    def test_a_difference_of_exactly_one(self):
        self.assertIs(shows_fair(((1, 2),), 1, ((), (0,))), True)
        self.assertIs(shows_fair(((2, 4),), 1, ((), (), (0,), (0,))), False)
        self.assertIs(shows_fair(((2, 4),), 1, ((0,), (0,), (), ())), False)
        self.assertIs(shows_fair(((2, 4),), 1, ((), (0,), (0,), ())), True)

    def test_values_of_other_kinds(self):
        for value in ANY_VALUES:
            self.assertIs(self.assert_steady(shows_fair, ((1, 2), (2, 4)), 2, value), False)
        for value in (((False,), ()), ([0], ()), (0, None), ((0,), None), [(0,), ()], ((0, 0), ()),
                      ((0,), (1,)), ("0", "")):
            self.assertIs(shows_fair(((1, 2),), 1, value), False)
        self.assertIs(shows_fair(((1, 1), (1, 1)), 2, ((0, 1),)), True)
        for value in (((1, 0),), ((0, True),), ((0,),), ((0, 1, 1),)):
            self.assertIs(shows_fair(((1, 1), (1, 1)), 2, value), False)

    def test_wrong_arguments(self):
        wrong = [wrong_pairs(errors), wrong_machines(errors)]
        self.assert_wrong_arguments(fair_schedule, (((1, 2),), 2), wrong)
        self.assert_wrong_arguments(shows_fair, (((1, 2),), 2, ()), wrong)


if __name__ == "__main__":
    unittest.main()
