"""Points 32 to 35: two machines in a row, rows of jobs, list schedules, and partitions."""

import unittest
from fractions import Fraction
from itertools import permutations, product

from eventcore import errors
from eventcore.lists import (flow_end, flow_order, least_end, list_end, partition, shortest_first, sum_of_ends)
from support import (ANY_VALUES, Checks, bent_tuples, is_whole, random_links, random_order, rng_of,
                     wrong_length_rows, wrong_links, wrong_machines, wrong_orders, wrong_pair_jobs, wrong_pairs)


def followed_end(jobs, order):
    """The end of the second machine, by following both machines from unit to unit."""
    first, second = [list(order), None, 0], [[], None, 0]
    finished, time = 0, 0
    while True:
        # Jobs that need no time pass at once, as many as there are.
        moved = True
        while moved:
            moved = False
            for machine, after in ((first, second), (second, None)):
                if machine[1] is None and machine[0]:
                    machine[1] = machine[0].pop(0)
                    machine[2] = jobs[machine[1]][0 if machine is first else 1]
                    moved = True
                if machine[1] is not None and machine[2] == 0:
                    if after is None:
                        finished += 1
                    else:
                        after[0].append(machine[1])
                    machine[1] = None
                    moved = True
        if finished == len(jobs):
            return time
        for machine in (first, second):
            machine[2] -= machine[1] is not None
        time += 1


def random_flow(rng, most=6):
    high = rng.choice((2, 5, 9))
    return tuple((rng.randint(0, high), rng.randint(0, high)) for _ in range(rng.randint(1, most)))


class FlowTest(Checks, unittest.TestCase):
    def test_ends_of_random_orders(self):
        rng = rng_of(320)
        for _ in range(500):
            jobs = random_flow(rng, most=8)
            order = random_order(rng, jobs)
            self.assert_same(self.assert_steady(flow_end, jobs, order), followed_end(jobs, order))

    def test_least_ends(self):
        rng = rng_of(321)
        unlike = 0
        for _ in range(250):
            jobs = random_flow(rng)
            order = self.assert_steady(flow_order, jobs)
            self.assertIs(type(order), tuple)
            self.assertEqual(sorted(order), list(range(len(jobs))))
            ends = [followed_end(jobs, other) for other in permutations(range(len(jobs)))]
            self.assertEqual(followed_end(jobs, order), min(ends), (jobs, order))
            unlike += len(set(ends)) > 2
        self.assertGreater(unlike, 80)

    def test_all_pairs_of_small_jobs(self):
        kinds = list(product(range(4), repeat=2))
        for jobs in product(kinds, repeat=2):
            ends = [followed_end(jobs, order) for order in ((0, 1), (1, 0))]
            self.assertEqual([flow_end(jobs, order) for order in ((0, 1), (1, 0))], ends)
            self.assertEqual(flow_end(jobs, flow_order(jobs)), min(ends), jobs)

    def test_small_cases(self):
        self.assert_same(flow_end(((3, 2), (1, 4)), (0, 1)), 9)
        self.assert_same(flow_end(((3, 2), (1, 4)), (1, 0)), 7)
        self.assert_same(flow_order(((3, 2), (1, 4))), (1, 0))
        self.assert_same(flow_order(((5, 5),)), (0,))
        self.assert_same(flow_end(((0, 0),), (0,)), 0)
        self.assert_same(flow_end(((0, 7), (7, 0)), (0, 1)), 7)
        self.assert_same(flow_end(((0, 7), (7, 0)), (1, 0)), 14)
        # The last job needs the first machine alone.
        self.assert_same(flow_end(((2, 1), (5, 0)), (0, 1)), 7)
        self.assert_same(flow_end(((100, 100),) * 8, tuple(range(8))), 900)
        self.assertEqual(flow_end(((100, 0), (0, 100)) * 4, flow_order(((100, 0), (0, 100)) * 4)), 400)

    def test_wrong_arguments(self):
        jobs = ((3, 2), (1, 4))
        orders = [(value, errors.BadOrder()) for value in wrong_orders()]
        self.assert_wrong_arguments(flow_end, (jobs, (0, 1)), [wrong_pair_jobs(errors), orders])
        self.assert_wrong_arguments(flow_order, (jobs,), [wrong_pair_jobs(errors)])
        self.assert_error(errors.BadOrder(), flow_end, ((3, 2),), (1,))
        self.assert_same(flow_end(((3, 2),), (0,)), 5)


def random_lengths(rng, most=8, high=None):
    high = rng.choice((2, 6, 100)) if high is None else high
    return tuple(rng.randint(1, high) for _ in range(rng.randint(1, most)))


def plain_rows(many, machines, value):
    """What point 33 says of rows."""
    if type(value) is not tuple or len(value) != machines or any(type(row) is not tuple for row in value):
        return False
    members = [job for row in value for job in row]
    return all(is_whole(job, 0, many - 1) for job in members) and sorted(members) == list(range(many))


def plain_sum(lengths, rows):
    return sum(sum(lengths[job] for job in row[:place]) for row in rows for place in range(1, len(row) + 1))


def random_rows(rng, many, machines):
    rows = [[] for _ in range(machines)]
    for job in rng.sample(range(many), many):
        rng.choice(rows).append(job)
    return tuple(tuple(row) for row in rows)


class RowsTest(Checks, unittest.TestCase):
    def least_sum(self, lengths, machines):
        """By all ways to give jobs to machines; on one machine, by all orders."""
        known = {}
        best = None
        for places in product(range(machines), repeat=len(lengths)):
            total = 0
            for machine in range(machines):
                members = tuple(job for job, place in enumerate(places) if place == machine)
                if members not in known:
                    known[members] = min(plain_sum(lengths, (row,)) for row in permutations(members))
                total += known[members]
            best = total if best is None else min(best, total)
        return best

    def test_sums_of_random_rows(self):
        rng = rng_of(330)
        for _ in range(400):
            lengths, machines = random_lengths(rng), rng.randint(1, 4)
            rows = random_rows(rng, len(lengths), machines)
            self.assert_same(self.assert_steady(sum_of_ends, lengths, machines, rows), plain_sum(lengths, rows))
        self.assert_same(sum_of_ends((3, 1, 2), 1, ((0, 1, 2),)), 13)
        self.assert_same(sum_of_ends((3, 1, 2), 2, ((0, 1), (2,))), 9)
        self.assert_same(sum_of_ends((3,), 4, ((), (), (0,), ())), 3)
        self.assert_same(sum_of_ends((100,) * 8, 1, (tuple(range(8)),)), 3600)

    def test_least_sums(self):
        rng = rng_of(331)
        for _ in range(120):
            machines = rng.randint(1, 4)
            lengths = random_lengths(rng, most=5)
            rows = self.assert_steady(shortest_first, lengths, machines)
            self.assertTrue(plain_rows(len(lengths), machines, rows), (lengths, machines, rows))
            self.assertEqual(plain_sum(lengths, rows), self.least_sum(lengths, machines), (lengths, machines, rows))
            self.assertEqual(sum_of_ends(lengths, machines, rows), plain_sum(lengths, rows))
        for lengths in ((1,), (100,) * 8, (8, 7, 6, 5, 4, 3, 2, 1)):
            for machines in range(1, 5):
                rows = shortest_first(lengths, machines)
                self.assertTrue(plain_rows(len(lengths), machines, rows))
        self.assertEqual(sum_of_ends((4, 3, 2, 1), 2, shortest_first((4, 3, 2, 1), 2)), 1 + 2 + 4 + 6)
        self.assertEqual(sum_of_ends((9, 1, 1), 2, shortest_first((9, 1, 1), 2)), 12)

    def test_bent_rows(self):
        rng = rng_of(332)
        counts = [0, 0]
        for _ in range(120):
            lengths, machines = random_lengths(rng, most=5), rng.randint(1, 4)
            rows = random_rows(rng, len(lengths), machines)
            for value in bent_tuples(rng, rows):
                good = plain_rows(len(lengths), machines, value)
                counts[good] += 1
                if good:
                    self.assert_same(sum_of_ends(lengths, machines, value), plain_sum(lengths, value))
                else:
                    self.assert_error(errors.BadRows(), sum_of_ends, lengths, machines, value)
        self.assertGreater(min(counts), 100)

    def test_wrong_arguments(self):
        rows = list(ANY_VALUES) + [((0, 1),), ((0, 1), (), ()), ((0,), (0,)), ((0,), ()), ((1,), ()), ((0, 1), (0,)),
                                   ((0, 2), (1,)), ((0,), (2,)), ((-1, 0), ()), ([0, 1], ()), ((0, 1), []),
                                   [(0, 1), ()], ((0, True), ()), ((False, 1), ()), ((0, None), (1,)), ((0, "1"), ()),
                                   (0, 1), ((0, 1), None), ("01", ""), ((0, 1), ""), ({0: 0, 1: 1}, ())]
        wrong = [wrong_length_rows(errors), wrong_machines(errors), [(value, errors.BadRows()) for value in rows]]
        self.assert_wrong_arguments(sum_of_ends, ((3, 100), 2, ((1,), (0,))), wrong)
        self.assert_wrong_arguments(shortest_first, ((3, 100), 2), wrong[:2])
        self.assert_same(sum_of_ends((3, 100), 2, ((), (1, 0))), 203)


def followed_list(lengths, links, order, machines):
    """The end of a list schedule, unit by unit."""
    left, begun, time = list(lengths), [], 0
    while any(left):
        ready = [job for job in order if job not in begun
                 and all(left[before] == 0 for before, after in links if after == job)]
        busy = [job for job in begun if left[job]]
        begun += ready[:machines - len(busy)]
        for job in begun:
            left[job] -= left[job] > 0
        time += 1
    return time


class ListTest(Checks, unittest.TestCase):
    def greatest_chain(self, lengths, links):
        """The greatest sum of lengths along a chain of links."""
        def behind(job):
            return lengths[job] + max([behind(after) for before, after in links if before == job], default=0)
        return max(behind(job) for job in range(len(lengths)))

    def test_random_lists(self):
        rng = rng_of(340)
        later = 0
        for _ in range(600):
            lengths, machines = random_lengths(rng, high=rng.choice((2, 6, 30))), rng.randint(1, 4)
            links = random_links(rng, len(lengths), most=rng.choice((0, 4, 12)))
            order = random_order(rng, lengths)
            end = self.assert_steady(list_end, lengths, links, order, machines)
            self.assert_same(end, followed_list(lengths, links, order, machines))
            chain = self.greatest_chain(lengths, links)
            self.assertLessEqual(machines * end, sum(lengths) + (machines - 1) * chain)
            later += end > list_end(lengths, (), order, machines)
        self.assertGreater(later, 100)

    def test_small_cases(self):
        self.assert_same(list_end((5,), (), (0,), 4), 5)
        self.assert_same(list_end((5, 3), (), (0, 1), 1), 8)
        self.assert_same(list_end((5, 3), (), (0, 1), 2), 5)
        self.assert_same(list_end((5, 3), ((0, 1),), (1, 0), 4), 8)
        self.assert_same(list_end((5, 3), ((0, 1), (0, 1)), (0, 1), 4), 8)
        self.assert_same(list_end((1, 1, 2), (), (0, 1, 2), 2), 3)
        self.assert_same(list_end((1, 1, 2), (), (2, 0, 1), 2), 2)
        # A job whose turn it is is held back, and a later one takes the machine.
        self.assert_same(list_end((2, 3, 4), ((0, 1),), (0, 1, 2), 2), 5)
        self.assert_same(list_end((2, 3, 4), ((0, 1),), (1, 2, 0), 1), 9)
        self.assert_same(list_end((100,) * 8, (), tuple(range(8)), 1), 800)

    def test_least_ends(self):
        rng = rng_of(342)
        for _ in range(60):
            lengths, machines = random_lengths(rng, most=6), rng.randint(1, 4)
            sums = []
            for places in product(range(machines), repeat=len(lengths)):
                sums.append(max(sum(length for length, place in zip(lengths, places) if place == machine)
                                for machine in range(machines)))
            least = self.assert_steady(least_end, lengths, machines)
            self.assert_same(least, min(sums))
            end = list_end(lengths, (), random_order(rng, lengths), machines)
            self.assertLessEqual(end, (2 - Fraction(1, machines)) * least)
            falling = tuple(sorted(range(len(lengths)), key=lambda job: -lengths[job]))
            end = list_end(lengths, (), falling, machines)
            self.assertLessEqual(end, (Fraction(4, 3) - Fraction(1, 3 * machines)) * least)

    def test_small_least_ends(self):
        self.assert_same(least_end((3,), 4), 3)
        self.assert_same(least_end((3, 4), 1), 7)
        self.assert_same(least_end((3, 3, 2, 2, 2), 2), 6)
        self.assert_same(least_end((5, 5, 4, 4, 3, 3, 3), 3), 9)
        self.assert_same(least_end((100,) * 8, 3), 300)
        self.assert_same(least_end((100, 99, 98, 97, 96, 95, 94, 93), 4), 193)
        # The bounds are attained.
        self.assert_same(list_end((1, 1, 2), (), (0, 1, 2), 2), 3)
        self.assert_same(least_end((1, 1, 2), 2), 2)
        self.assert_same(list_end((3, 3, 2, 2, 2), (), (0, 1, 2, 3, 4), 2), 7)

    def test_wrong_arguments(self):
        orders = [value for value in wrong_orders() if value not in ((0, 1, 2), (1, 0, 2))]
        orders += [(0, 1), (1, 0), (0, 1, 1), (0, 1, 3), (0, 1, True), (0, 1, 2, 3)]
        wrong = [wrong_length_rows(errors), wrong_links(errors), [(value, errors.BadOrder()) for value in orders],
                 wrong_machines(errors)]
        self.assert_wrong_arguments(list_end, ((3, 100, 1), ((0, 1),), (0, 1, 2), 2), wrong)
        self.assert_wrong_arguments(least_end, ((3, 100), 2), [wrong[0], wrong[3]])
        self.assert_error(errors.BadLinks(None), list_end, (3, 4), ((0, 1), (1, 0)), (0, 1), 2)
        self.assert_error(errors.BadLinks(0), list_end, (3,), ((0, 1),), (0,), 2)
        self.assert_error(errors.BadLinks(1), list_end, (1,) * 8, ((0, 7), (0, 8)), tuple(range(8)), 2)


class PartitionTest(Checks, unittest.TestCase):
    def rates(self, pairs, places, machines):
        return [sum(Fraction(*pair) for pair, place in zip(pairs, places) if place == machine)
                for machine in range(machines)]

    def test_random_pairs(self):
        rng = rng_of(350)
        counts = {}
        for _ in range(800):
            many, machines = rng.randint(1, 4), rng.randint(1, 4)
            gaps = [rng.randint(1, 12) for _ in range(many)]
            low = rng.choice((0, 0, 0.5))
            pairs = tuple((rng.randint(1 + int(low * (gap - 1)), gap), gap) for gap in gaps)
            ways = product(range(machines), repeat=many)
            wanted = any(max(self.rates(pairs, places, machines)) <= 1 for places in ways)
            found = self.assert_steady(partition, pairs, machines)
            self.assertEqual(found is not None, wanted, (pairs, machines))
            if wanted:
                self.assertIs(type(found), tuple)
                self.assertEqual(len(found), many)
                self.assertTrue(all(is_whole(place, 0, machines - 1) for place in found))
                self.assertLessEqual(max(self.rates(pairs, found, machines)), 1)
            total = sum(Fraction(*pair) for pair in pairs)
            if total <= Fraction(machines + 1, 2):
                self.assertTrue(wanted)
            key = (wanted, total <= machines)
            counts[key] = counts.get(key, 0) + 1
        # It may fail though the sum is not greater than the number of machines.
        for key in ((True, True), (False, True), (False, False)):
            self.assertGreater(counts[key], 10)

    def test_sums_of_one_and_just_above(self):
        for gap in range(1, 13):
            self.assert_same(partition(((gap, gap),), 1), (0,))
            self.assertEqual(sorted(partition(((gap, gap),) * 4, 4)), [0, 1, 2, 3])
            self.assert_same(partition(((gap, gap),) * 4, 3), None)
        self.assert_same(partition(((1, 2), (1, 3), (1, 6)), 1), (0, 0, 0))
        self.assert_same(partition(((1, 2), (1, 3), (2, 11)), 1), None)
        self.assert_same(partition(((1, 11), (10, 11)), 1), (0, 0))
        self.assert_same(partition(((1, 10), (10, 11)), 1), None)
        self.assert_same(partition(((1, 12), (11, 12), (1, 1)), 2)[2], 1 - partition(((1, 12), (11, 12), (1, 1)), 2)[0])
        self.assert_same(partition(((1, 11), (11, 12), (1, 1)), 2), None)
        self.assert_same(partition(((2, 3),) * 3, 2), None)
        self.assert_same(partition(((1, 2),) * 4, 2) is None, False)
        self.assert_same(partition(((7, 12), (7, 11), (5, 12), (4, 11)), 2) is None, False)

    def test_wrong_arguments(self):
        self.assert_wrong_arguments(partition, (((1, 12), (12, 12)), 2), [wrong_pairs(errors), wrong_machines(errors)])


if __name__ == "__main__":
    unittest.main()
