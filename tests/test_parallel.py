"""Points 25 and 26: lengths that are wrapped around machines, and long jobs on several machines."""

import unittest
from itertools import combinations

from eventcore import errors
from eventcore.interrupted import unit_schedule
from eventcore.parallel import crowd, parallel_schedule, shows_crowd, shows_parallel, shows_pieces, wrapped
from support import (ANY_VALUES, Checks, bent_tuples, is_whole, random_long_jobs, rng_of, same, units_exist,
                     wrong_length_rows, wrong_long_jobs, wrong_machines)


def plain_pieces(lengths, machines, value):
    """What point 25 says of pieces, part by part."""
    if type(value) is not tuple:
        return False
    at_machine, at_job = set(), set()
    for piece in value:
        if type(piece) is not tuple or len(piece) != 4 or any(type(entry) is not int for entry in piece):
            return False
        machine, start, stop, job = piece
        if not (0 <= machine < machines and 0 <= start < stop <= 10000 and 0 <= job < len(lengths)):
            return False
        for part in range(start, stop):
            if (machine, part) in at_machine or (job, part) in at_job:
                return False
            at_machine.add((machine, part))
            at_job.add((job, part))
    if any(one >= other for one, other in zip(value, value[1:])):
        return False
    return all(len([1 for one, _ in at_job if one == job]) == length * machines for job, length in enumerate(lengths))


def plain_parallel(jobs, machines, value):
    """What point 26 says of a parallel schedule, job by job."""
    if type(value) is not tuple or not value or value[-1] == ():
        return False
    for row in value:
        if type(row) is not tuple or len(row) > machines or any(type(job) is not int for job in row):
            return False
        if any(not 0 <= job < len(jobs) for job in row) or any(one >= other for one, other in zip(row, row[1:])):
            return False
    for job, (arrival, length, due) in enumerate(jobs):
        units = [unit for unit, row in enumerate(value) if job in row]
        if len(units) != length or units[0] < arrival or units[-1] >= due:
            return False
    return True


def plain_crowd(jobs, machines, value):
    """What point 26 says of a crowd."""
    if type(value) is not tuple or any(not is_whole(job, 0, len(jobs) - 1) for job in value):
        return False
    if any(one >= other for one, other in zip(value, value[1:])):
        return False
    room = sum(min(machines, sum(1 for job in value if jobs[job][0] <= unit < jobs[job][2])) for unit in range(101))
    return sum(jobs[job][1] for job in value) > room


def all_crowds(jobs, machines):
    sets = [members for many in range(len(jobs) + 1) for members in combinations(range(len(jobs)), many)]
    return [members for members in sets if plain_crowd(jobs, machines, members)]


class WrappedTest(Checks, unittest.TestCase):
    def test_random_lengths(self):
        rng = rng_of(250)
        counts = {}
        for _ in range(400):
            most = rng.choice((3, 10, 100))
            lengths = tuple(rng.randint(1, most) for _ in range(rng.randint(1, 8)))
            machines = rng.randint(1, 4)
            pieces = self.assert_steady(wrapped, lengths, machines)
            self.assertTrue(plain_pieces(lengths, machines, pieces), (lengths, machines, pieces))
            self.assertIs(shows_pieces(lengths, machines, pieces), True)
            stop = max(stop for _, _, stop, _ in pieces)
            self.assertEqual(stop, max(sum(lengths), max(lengths) * machines))
            self.assertLessEqual(len(pieces), len(lengths) + machines - 1)
            key = (sum(lengths) > max(lengths) * machines, len(pieces) > len(lengths))
            counts[key] = counts.get(key, 0) + 1
        self.assertGreater(counts[True, True], 30)
        self.assertGreater(counts[False, False] + counts[False, True], 30)

    def test_small_cases(self):
        self.assert_same(wrapped((3,), 1), ((0, 0, 3, 0),))
        self.assert_same(wrapped((100,), 4), ((0, 0, 400, 0),))
        self.assertEqual(max(stop for _, _, stop, _ in wrapped((2, 2, 2), 2)), 6)
        self.assertEqual(max(stop for _, _, stop, _ in wrapped((5, 1, 1), 2)), 10)
        self.assertEqual(max(stop for _, _, stop, _ in wrapped((100,) * 8, 4)), 800)
        # A job that is as long as all may take and begins in the middle of a machine.
        self.assertTrue(plain_pieces((1, 3, 2), 2, wrapped((1, 3, 2), 2)))

    def test_judge(self):
        rng = rng_of(251)
        counts = [0, 0]
        for _ in range(200):
            lengths = tuple(rng.randint(1, 4) for _ in range(rng.randint(1, 5)))
            machines = rng.randint(1, 4)
            pieces = wrapped(lengths, machines)
            rows = bent_tuples(rng, pieces) + [pieces[::-1]]
            for _ in range(10):
                rows.append(self.changed(rng, pieces, machines))
            for value in rows:
                wanted = plain_pieces(lengths, machines, value)
                self.assertIs(self.assert_steady(shows_pieces, lengths, machines, value), wanted, (lengths, value))
                counts[wanted] += 1
        self.assertGreater(min(counts), 100)

    def changed(self, rng, pieces, machines):
        """The pieces with one of them moved in time or to another machine, cut in two, or joined with the next one."""
        rows = list(pieces)
        place = rng.randrange(len(rows))
        machine, start, stop, job = rows[place]
        kind = rng.choice(("move", "machine", "cut", "join", "late"))
        if kind == "move":
            step = rng.choice((-2, -1, 1, 2, 50))
            rows[place] = (machine, start + step, stop + step, job)
        elif kind == "machine":
            rows[place] = (rng.randrange(machines + 1), start, stop, job)
        elif kind == "cut":
            middle = rng.randint(start, stop)
            rows[place:place + 1] = [(machine, start, middle, job), (machine, middle, stop, job)]
        elif kind == "join" and place + 1 < len(rows):
            rows[place:place + 2] = [(machine, start, rows[place + 1][2], job)]
        else:
            rows = [(one, begin + 7, end + 7, other) for one, begin, end, other in rows]
        return tuple(sorted(rows) if rng.random() < 0.9 else rows)

    def test_edges_of_the_judge(self):
        for value, wanted in ((((0, 0, 4, 0), (1, 0, 4, 1)), True), (((0, 0, 4, 1), (1, 0, 4, 0)), True),
                              # Later than need be, in several pieces that touch, and one after the other.
                              (((0, 9, 13, 0), (1, 0, 4, 1)), True), (((0, 0, 1, 0), (0, 1, 4, 0), (1, 0, 4, 1)), True),
                              (((1, 0, 4, 0), (1, 4, 8, 1)), True), (((0, 0, 2, 0), (1, 0, 4, 1), (1, 4, 6, 0)), True),
                              # Not ascending, overlapping on a machine or of a job, too short or too long.
                              (((1, 0, 4, 0), (0, 0, 4, 1)), False), (((0, 0, 4, 0), (0, 3, 7, 1)), False),
                              (((0, 0, 2, 0), (1, 0, 4, 1), (1, 4, 6, 1)), False), (((0, 0, 4, 0),), False),
                              (((0, 0, 2, 0), (0, 4, 8, 1), (1, 1, 3, 0)), False),
                              (((0, 0, 3, 0), (1, 0, 4, 1)), False),
                              (((0, 0, 5, 0), (1, 0, 4, 1)), False), (((0, -1, 3, 0), (1, 0, 4, 1)), False),
                              (((0, 0, 0, 0), (0, 0, 4, 0), (1, 0, 4, 1)), False),
                              (((0, 0, 4, 0), (2, 0, 4, 1)), False),
                              (((0, 0, 4, 0), (1, 0, 4, 2)), False), (((-1, 0, 4, 0), (1, 0, 4, 1)), False),
                              (((0, 4, 0, 0), (1, 0, 4, 1)), False),
                              (((0, 0, 4, 0), (1, 0, 4, 1), (1, 0, 4, 1)), False),
                              (((0, 0, 4, -1), (1, 0, 4, 1)), False), (((False, 0, 4, 0), (1, 0, 4, 1)), False),
                              (((0, False, 4, 0), (1, 0, 4, 1)), False), (((0, 0, 4, 0), (True, 0, 4, 1)), False),
                              (((0, 0, 4, 0), (1, 0, 4, True)), False), (((0, 0, 4, 0), [1, 0, 4, 1]), False),
                              ([(0, 0, 4, 0), (1, 0, 4, 1)], False), (((0, 0, 4, 0), (1, 0, 4)), False),
                              (((0, 0, 4, 0), (1, 0, 4, 1, 0)), False), (((0, 0, 4, 0), (1, 0, "4", 1)), False),
                              (((0, 0, 4, 0), None), False), ((), False)):
            self.assertIs(shows_pieces((2, 2), 2, value), wanted, value)
        far = ((0, 10 ** 30, 10 ** 30 + 4, 0), (1, 0, 4, 1))
        self.assertIs(shows_pieces((2, 2), 2, far), True)

    def test_values_of_other_kinds(self):
        for value in ANY_VALUES:
            self.assertIs(self.assert_steady(shows_pieces, (2, 2), 2, value), False)

    def test_wrong_arguments(self):
        wrong = [wrong_length_rows(errors), wrong_machines(errors)]
        self.assert_wrong_arguments(wrapped, ((3, 4), 2), wrong)
        self.assert_wrong_arguments(shows_pieces, ((3, 4), 2, ()), wrong)


class ParallelTest(Checks, unittest.TestCase):
    def check(self, jobs, machines, wanted):
        units = self.assert_steady(parallel_schedule, jobs, machines)
        members = self.assert_steady(crowd, jobs, machines)
        self.assertEqual((units is not None, members is None), (wanted, wanted), (jobs, machines))
        if wanted:
            self.assertTrue(plain_parallel(jobs, machines, units), (jobs, machines, units))
            self.assertIs(shows_parallel(jobs, machines, units), True)
        else:
            self.assertTrue(plain_crowd(jobs, machines, members), (jobs, machines, members))
            self.assertIs(shows_crowd(jobs, machines, members), True)

    def test_random_jobs(self):
        rng = rng_of(260)
        counts = {}
        for _ in range(600):
            machines = rng.randint(1, 4)
            jobs = random_long_jobs(rng, most=rng.choice((2, 5, 7)), most_length=5, spread=rng.choice((0, 3, 6)),
                                    slack=rng.choice((1, 3, 6)))
            wanted = units_exist(jobs, machines)
            self.check(jobs, machines, wanted)
            self.assertEqual(all_crowds(jobs, machines) == [], wanted)
            counts[(wanted, machines)] = counts.get((wanted, machines), 0) + 1
        self.assertEqual(len(counts), 8)
        self.assertGreater(min(counts.values()), 10)

    def test_large_jobs(self):
        rng = rng_of(261)
        counts = [0, 0]
        for _ in range(100):
            machines = rng.randint(1, 3)
            jobs = random_long_jobs(rng, most=7, most_length=20, spread=rng.choice((5, 30, 80)),
                                    slack=rng.choice((2, 9)))
            wanted = all_crowds(jobs, machines) == []
            self.check(jobs, machines, wanted)
            counts[wanted] += 1
        self.assertGreater(min(counts), 20)

    def test_one_machine(self):
        rng = rng_of(262)
        for _ in range(200):
            jobs = random_long_jobs(rng, most=5, slack=15)
            self.check(jobs, 1, unit_schedule(jobs) is not None)

    def test_small_cases(self):
        self.assert_same(parallel_schedule(((0, 2, 2), (0, 2, 2)), 2), ((0, 1), (0, 1)))
        self.assert_same(parallel_schedule(((0, 2, 2), (0, 2, 2)), 1), None)
        self.assert_same(crowd(((0, 2, 2), (0, 2, 2)), 1), (0, 1))
        # More machines than jobs do not help a job that is longer than its window.
        self.assert_same(crowd(((0, 3, 2), (0, 2, 9)), 4), (0,))
        self.assert_same(crowd(((0, 2, 9), (7, 1, 7)), 4), (1,))
        self.assert_same(crowd(((0, 2, 9), (100, 1, 0)), 4), (1,))
        self.assert_same(crowd(((5, 1, 0),), 4), (0,))
        self.assert_same(parallel_schedule(((2, 1, 3),), 4), ((), (), (0,)))
        # Three jobs of two units in three units on two machines: one of them changes the machine.
        self.check(((0, 2, 3),) * 3, 2, True)
        self.check(((0, 2, 3),) * 3 + ((0, 1, 3),), 2, False)
        self.check(((0, 20, 35),) * 7, 4, True)
        self.check(((0, 20, 34),) * 7, 4, False)
        self.check(((80, 20, 100),) * 7, 4, False)

    def test_units_move_along_a_chain(self):
        # Each job fills units that a later and tighter one needs.
        self.check(((0, 3, 9), (0, 3, 6), (0, 3, 3)), 1, True)
        self.check(((0, 3, 9), (0, 3, 9), (0, 3, 6), (0, 3, 6), (0, 3, 3), (0, 3, 3)), 2, True)
        self.check(((0, 3, 9), (0, 3, 9), (0, 3, 6), (0, 3, 6), (0, 3, 3), (0, 3, 3), (0, 1, 9)), 2, False)

    def test_judge_of_schedules(self):
        rng = rng_of(263)
        counts = [0, 0]
        for _ in range(250):
            machines = rng.randint(1, 3)
            jobs = random_long_jobs(rng, most=5, most_length=4, spread=4, slack=6)
            units = parallel_schedule(jobs, machines)
            if units is None:
                continue
            rows = bent_tuples(rng, units) + [units + ((),), ((),) + units, units[::-1]]
            for value in rows:
                for count in (1, 2, 3):
                    wanted = plain_parallel(jobs, count, value)
                    self.assertIs(self.assert_steady(shows_parallel, jobs, count, value), wanted, (jobs, count, value))
                    counts[wanted] += 1
        self.assertGreater(min(counts), 200)

    def test_judge_of_crowds(self):
        rng = rng_of(264)
        counts = [0, 0]
        for _ in range(150):
            jobs = random_long_jobs(rng, most=6, most_length=8, spread=5, slack=6)
            for many in range(len(jobs) + 1):
                for members in combinations(range(len(jobs)), many):
                    machines = rng.randint(1, 4)
                    wanted = plain_crowd(jobs, machines, members)
                    self.assertIs(shows_crowd(jobs, machines, members), wanted, (jobs, machines, members))
                    counts[wanted] += 1
                    if wanted:
                        self.assertIs(shows_crowd(jobs, machines, members[::-1]), many == 1)
                        self.assertIs(shows_crowd(jobs, machines, members + members[-1:]), False)
                        self.assertIs(shows_crowd(jobs, machines, list(members)), False)
        self.assertGreater(min(counts), 500)

    def test_values_of_other_kinds(self):
        jobs = ((50, 1, 90), (60, 1, 90))
        for value in ANY_VALUES:
            self.assertIs(self.assert_steady(shows_parallel, jobs, 2, value), False)
            self.assertIs(self.assert_steady(shows_crowd, jobs, 2, value), False)
        jobs = ((0, 1, 9), (0, 1, 9))
        for value in (((0, 1),), ((0,), (1,)), ((1,), (), (0,))):
            self.assertIs(shows_parallel(jobs, 2, value), True)
        for value in (((1, 0),), ((0, True),), ((False, 1),), ([0, 1],), (0, 1), [(0, 1)], ((0, 1), ()), ((0, 0, 1),),
                      ((0, 2),), ((0,), (1, 1)), ((0, 1), (0,)), ((0,),), (((0, 1),),), ((), (), None), ("01",)):
            self.assertIs(shows_parallel(jobs, 2, value), False)
        jobs = ((0, 9, 3), (0, 9, 3))
        for value in ANY_VALUES:
            wanted = any(same(value, members) for members in ((0,), (1,), (0, 1)))
            self.assertIs(shows_crowd(jobs, 1, value), wanted)
        for value in ((1, 0), (0, 0), (2,), (-1,), (0, 2), (0, None), (0, True), [0]):
            self.assertIs(shows_crowd(jobs, 1, value), False)

    def test_wrong_arguments(self):
        wrong = [wrong_long_jobs(errors), wrong_machines(errors)]
        for call in (parallel_schedule, crowd):
            self.assert_wrong_arguments(call, (((0, 2, 5),), 2), wrong)
        for call in (shows_parallel, shows_crowd):
            self.assert_wrong_arguments(call, (((0, 2, 5),), 2, (0,)), wrong)


if __name__ == "__main__":
    unittest.main()
