"""Points 16, 17 and 20: locked tasks, ceilings, the four protocols, and rings of locks."""

import unittest
from itertools import product

from eventcore import errors
from eventcore.locks import ceilings, lock_ring, simulate_locked
from support import (ANY_VALUES, LOCKED_TASKS, Checks, locked_as_tasks, plain_ceiling, random_locked, random_pattern,
                     random_ring_locked, rng_of, run_locked_jobs, sections_fit, wrong_locked, wrong_patterns)

PROTOCOLS = ("plain", "inherit", "ceiling", "stack")
# Two tasks that take two locks in unlike orders; task 1 has begun when task 0 arrives.
CROSSED = ((3, 20, ((0, 3, 0), (1, 2, 1))), (4, 20, ((0, 4, 1), (1, 3, 0))))


class CeilingsTest(Checks, unittest.TestCase):
    def test_small_cases(self):
        self.assert_same(ceilings(((1, 1, ()),)), (None, None, None, None))
        self.assert_same(ceilings(((1, 1, ((0, 1, 3),)),)), (None, None, None, 0))
        tasks = ((5, 9, ((0, 2, 1),)), (5, 9, ((0, 1, 1), (0, 3, 2))), (5, 9, ()), (5, 9, ((4, 1, 0),)))
        self.assert_same(ceilings(tasks), (3, 0, 1, None))

    def test_random_tasks(self):
        rng = rng_of(160)
        for _ in range(200):
            tasks = random_locked(rng, most=5)
            wanted = tuple(plain_ceiling(tasks, lock) for lock in range(4))
            self.assert_same(self.assert_steady(ceilings, tasks), wanted)

    def test_all_pairs_of_sections(self):
        # Every pair of sections of a task of cost 4, with two locks: allowed exactly if point 16 allows it.
        rows = [(start, length, lock) for start in range(4) for length in range(1, 6) for lock in (0, 1)]
        counts = [0, 0]
        for one, other in product(rows, rows):
            allowed = sections_fit(4, (one, other))
            counts[allowed] += 1
            if allowed:
                self.assertEqual(len(ceilings(((4, 4, (one, other)),))), 4)
            else:
                self.assert_error(errors.BadLocked(0), ceilings, ((4, 4, (one, other)),))
        self.assertGreater(min(counts), 50)

    def test_sections_inside_sections(self):
        for sections in (((0, 5, 0), (1, 3, 1), (2, 1, 2)), ((0, 1, 0), (0, 2, 1), (0, 3, 2), (0, 4, 3)),
                         ((0, 2, 0), (2, 2, 0)), ((0, 5, 0), (0, 1, 0)), ((0, 1, 0), (0, 5, 1), (4, 1, 0)),
                         ((0, 5, 2), (0, 1, 0), (1, 1, 0), (2, 1, 0)), ((0, 1, 0), (1, 1, 0), (2, 1, 0), (3, 2, 0)),
                         ((0, 5, 0), (3, 2, 1), (4, 1, 2))):
            sections = tuple(sorted(sections))
            if sections_fit(5, sections):
                self.assertEqual(len(ceilings(((5, 5, sections),))), 4)
            else:
                self.assert_error(errors.BadLocked(0), ceilings, ((5, 5, sections),))

    def test_wrong_arguments(self):
        self.assert_wrong_arguments(ceilings, (LOCKED_TASKS,), [wrong_locked(errors)])


class SimulateLockedTest(Checks, unittest.TestCase):
    def test_example(self):
        tasks = ((2, 20, ((1, 1, 0),)), (3, 20, ()), (5, 20, ((0, 4, 0),)))
        pattern = ((3,), (2,), (0,))
        answers = [simulate_locked(tasks, pattern, protocol)[0] for protocol in ("plain", "inherit", "stack")]
        self.assert_same(answers, [(2, 2, 1, 0, 1, 1, 2, 2, 0, 2), (2, 2, 1, 0, 2, 2, 0, 1, 1, 2),
                                   (2, 2, 2, 2, 0, 0, 1, 1, 1, 2)])

    def test_random_patterns(self):
        rng = rng_of(170)
        stuck_runs, idle_runs, unlike = {}, {}, 0
        for number in range(800):
            tasks = random_ring_locked(rng) if number % 2 else random_locked(rng, most=5)
            pattern = random_pattern(rng, locked_as_tasks(tasks), most=3, spread=8)
            schedules = []
            for protocol in PROTOCOLS:
                jobs, ran = run_locked_jobs(tasks, pattern, protocol)
                stuck = tuple(sorted({job.task for job in jobs if job.finish is None}))
                self.assert_same(self.assert_steady(simulate_locked, tasks, pattern, protocol), (ran, stuck))
                schedules.append(ran)
                stuck_runs[protocol] = stuck_runs.get(protocol, 0) + (stuck != ())
                idle_runs[protocol] = idle_runs.get(protocol, 0) + (stuck != () and None in ran)
            unlike += len(set(schedules)) == 4
        self.assertGreater(min(stuck_runs["plain"], stuck_runs["inherit"], idle_runs["plain"]), 20)
        self.assertEqual((stuck_runs["ceiling"], stuck_runs["stack"]), (0, 0))
        self.assertGreater(unlike, 5)

    def test_patterns_that_get_stuck(self):
        pattern = ((1,), (0,))
        for protocol in ("plain", "inherit"):
            self.assert_same(simulate_locked(CROSSED, pattern, protocol), ((1, 0), (0, 1)))
        for protocol, schedule in (("ceiling", (1, 1, 1, 1, 0, 0, 0)), ("stack", (1, 1, 1, 1, 0, 0, 0))):
            self.assert_same(simulate_locked(CROSSED, pattern, protocol), (schedule, ()))

    def test_stuck_with_others_that_go_on(self):
        tasks = (*CROSSED, (2, 3, ()))
        for protocol in ("plain", "inherit"):
            self.assert_same(simulate_locked(tasks, ((1,), (0,), (1, 8)), protocol),
                             ((1, 0, 2, 2, None, None, None, None, 2, 2), (0, 1)))
            # A later job of a stuck task never runs, and no unit stands behind the last one with a task.
            self.assert_same(simulate_locked(tasks, ((1, 30), (0,), ()), protocol), ((1, 0), (0, 1)))
            self.assert_same(simulate_locked(tasks, ((1, 30), (0,), (20,)), protocol),
                             ((1, 0) + (None,) * 18 + (2, 2), (0, 1)))
        # A job that arrives late and needs a lock of a stuck one cannot run either.
        tasks = (*CROSSED, (1, 9, ((0, 1, 0),)))
        for protocol in ("plain", "inherit"):
            self.assert_same(simulate_locked(tasks, ((1,), (0,), (7,)), protocol), ((1, 0), (0, 1, 2)))
        self.assert_same(simulate_locked(tasks, ((1,), (0,), (7,)), "stack"), ((1, 1, 1, 1, 0, 0, 0, 2), ()))

    def test_units_without_jobs(self):
        for protocol in PROTOCOLS:
            self.assert_same(simulate_locked(LOCKED_TASKS, ((), ()), protocol), ((), ()))
            self.assert_same(simulate_locked(LOCKED_TASKS, ((3, 8), (2,)), protocol),
                             ((None, None, 1, 0, 0, None, None, None, 0, 0), ()))

    def test_ceiling_waits_for_other_locks_too(self):
        # Lock 1 is free, but lock 0 has a ceiling that is not lower than task 1.
        tasks = ((1, 20, ((0, 1, 0),)), (2, 20, ((1, 1, 1),)), (4, 20, ((0, 3, 0),)))
        pattern = ((), (1,), (0,))
        self.assert_same(simulate_locked(tasks, pattern, "inherit")[0], (2, 1, 1, 2, 2, 2))
        self.assert_same(simulate_locked(tasks, pattern, "ceiling")[0], (2, 1, 2, 2, 1, 2))
        self.assert_same(simulate_locked(tasks, pattern, "stack")[0], (2, 2, 2, 1, 1, 2))
        # A ceiling that is lower than the task does not count.
        tasks = ((2, 20, ((1, 1, 1),)), (1, 20, ((0, 1, 0),)), (4, 20, ((0, 3, 0),)))
        self.assert_same(simulate_locked(tasks, ((1,), (), (0,)), "ceiling")[0], (2, 0, 0, 2, 2, 2))
        self.assert_same(simulate_locked(tasks, ((1,), (), (0,)), "stack")[0], (2, 0, 0, 2, 2, 2))

    def test_priorities_pass_along_a_chain(self):
        # Task 0 waits for task 2, which waits for task 3: task 1 must not come in between.
        tasks = ((1, 20, ((0, 1, 0),)), (2, 20, ()), (3, 20, ((0, 3, 0), (1, 1, 1))), (4, 20, ((0, 3, 1),)))
        pattern = ((3,), (3,), (1,), (0,))
        self.assert_same(simulate_locked(tasks, pattern, "inherit")[0], (3, 2, 3, 3, 2, 2, 0, 1, 1, 3))
        self.assert_same(simulate_locked(tasks, pattern, "plain")[0], (3, 2, 3, 1, 1, 3, 2, 2, 0, 3))

    def test_ties_of_current_priorities(self):
        # Tasks 1 and 2 both have the current priority of task 0, which waits for both of them: task 1 goes first.
        tasks = ((2, 20, ((0, 2, 0), (0, 1, 1))), (3, 20, ((0, 2, 0),)), (3, 20, ((0, 2, 1),)))
        tasks = tuple((cost, gap, tuple(sorted(sections))) for cost, gap, sections in tasks)
        pattern = ((2,), (1,), (0,))
        self.assert_same(simulate_locked(tasks, pattern, "inherit")[0], (2, 1, 1, 2, 0, 0, 1, 2))
        # Under "stack" a begun job of a greater task stays ahead of one that has not begun, with the same priority.
        tasks = ((1, 20, ((0, 1, 0),)), (3, 20, ((0, 2, 0),)))
        self.assert_same(simulate_locked(tasks, ((1,), (0,)), "stack")[0], (1, 1, 0, 1))

    def test_locks_are_taken_together_and_given_back(self):
        # A section of one unit is held by nobody else, and its lock is free again behind it.
        tasks = ((1, 20, ((0, 1, 0),)), (3, 20, ((0, 1, 0), (1, 1, 0))))
        for protocol in PROTOCOLS:
            self.assert_same(simulate_locked(tasks, ((1,), (0,)), protocol)[0], (1, 0, 1, 1))
        # Both locks are taken together: while one of them is held, the job holds none.
        tasks = ((2, 20, ((0, 1, 0), (0, 2, 1))), (2, 20, ((0, 2, 1),)), (3, 20, ((0, 2, 0),)))
        self.assert_same(simulate_locked(tasks, ((1,), (1,), (0,)), "plain")[0], (2, 1, 1, 2, 0, 0, 2))

    def test_jobs_of_one_task(self):
        tasks = ((2, 3, ((0, 2, 0),)), (4, 4, ((1, 3, 0),)))
        pattern = ((2, 5, 8), (0, 4))
        self.assert_same(simulate_locked(tasks, pattern, "plain"), ((1, 1, 1, 1, 0, 0, 0, 0, 0, 0, 1, 1, 1, 1), ()))
        self.assert_same(run_locked_jobs(tasks, pattern, "plain")[1], (1, 1, 1, 1, 0, 0, 0, 0, 0, 0, 1, 1, 1, 1))

    def test_wrong_arguments(self):
        protocols = [(value, errors.BadProtocol()) for value in ANY_VALUES]
        protocols += [(value, errors.BadProtocol()) for value in ("Plain", "plain ", "stack\n", ("plain",), ["stack"],
                                                                 "inherited", "stuck")]
        self.assert_wrong_arguments(simulate_locked, (LOCKED_TASKS, ((0, 5), ()), "plain"), [
            wrong_locked(errors), wrong_patterns(errors), protocols])


class LockRingTest(Checks, unittest.TestCase):
    def plain(self, tasks):
        """The least of the shortest rings, by trying all tuples of locks."""
        leads = set()
        for _, _, sections in tasks:
            for start, length, lock in sections:
                for later, size, other in sections:
                    if later > start and later + size <= start + length:
                        leads.add((lock, other))
        for many in range(1, 5):
            for ring in product(range(4), repeat=many):
                if all((ring[place], ring[(place + 1) % many]) in leads for place in range(many)):
                    return ring
        return None

    def test_random_tasks(self):
        rng = rng_of(200)
        counts = {}
        for _ in range(4000):
            tasks = random_locked(rng, most=5, most_cost=5, locks=rng.choice((2, 3, 4, 4)))
            if rng.random() < 0.5:
                tasks = random_ring_locked(rng, most=5, locks=rng.choice((3, 4)))
            wanted = self.plain(tasks)
            self.assert_same(self.assert_steady(lock_ring, tasks), wanted)
            key = 0 if wanted is None else len(wanted)
            counts[key] = counts.get(key, 0) + 1
        for key in (0, 2, 3):
            self.assertGreater(counts[key], 20)

    def test_without_a_ring_nothing_gets_stuck(self):
        rng = rng_of(201)
        counts = [0, 0]
        for _ in range(1500):
            tasks = random_ring_locked(rng)
            pattern = random_pattern(rng, locked_as_tasks(tasks), most=3)
            ring = lock_ring(tasks)
            for protocol in ("plain", "inherit"):
                stuck = simulate_locked(tasks, pattern, protocol)[1]
                if stuck:
                    self.assertIsNotNone(ring)
                    counts[0] += 1
                counts[1] += ring is None
        self.assertGreater(min(counts), 20)

    def links(self, *pairs):
        """Locked tasks in which each first lock leads to the second one, and nothing else does."""
        return tuple((3, 9, ((0, 3, one), (1, 1, other))) for one, other in pairs)

    def test_small_cases(self):
        self.assert_same(lock_ring(((1, 1, ()),)), None)
        self.assert_same(lock_ring(CROSSED), (0, 1))
        self.assert_same(lock_ring(self.links((0, 1))), None)
        self.assert_same(lock_ring(self.links((3, 1), (1, 3))), (1, 3))
        self.assert_same(lock_ring(self.links((3, 1), (1, 2), (2, 3))), (1, 2, 3))
        self.assert_same(lock_ring(self.links((1, 3), (2, 1), (3, 2))), (1, 3, 2))
        self.assert_same(lock_ring(self.links((0, 1), (1, 2), (2, 3), (3, 0))), (0, 1, 2, 3))
        self.assert_same(lock_ring(self.links((0, 2), (2, 1), (1, 3), (3, 0))), (0, 2, 1, 3))
        self.assert_same(lock_ring(self.links((0, 1), (1, 2), (2, 3))), None)
        # The shortest ring, even if a longer one is less.
        self.assert_same(lock_ring(self.links((0, 1), (1, 2), (2, 0), (3, 2), (2, 3))), (2, 3))
        # Of several shortest ones the least.
        self.assert_same(lock_ring(((9, 9, ((0, 9, 2), (1, 7, 3), (2, 5, 1))), *self.links((3, 2), (1, 3)))), (1, 3))

    def test_sections_that_begin_together_do_not_lead(self):
        self.assert_same(lock_ring(((3, 9, ((0, 2, 1), (0, 3, 0))), (3, 9, ((0, 3, 1), (1, 2, 0))))), None)
        self.assert_same(lock_ring(((3, 9, ((0, 3, 0), (1, 2, 1))), (3, 9, ((0, 2, 0), (0, 3, 1))))), None)
        # Those that end together do.
        self.assert_same(lock_ring(((3, 9, ((0, 3, 0), (1, 2, 1))), (3, 9, ((0, 3, 1), (2, 1, 0))))), (0, 1))
        # A section that begins behind another one is not inside it.
        self.assert_same(lock_ring(((4, 9, ((0, 2, 0), (2, 2, 1))), (4, 9, ((0, 2, 1), (2, 2, 0))))), None)

    def test_over_sections_in_between(self):
        # The outer lock leads to the innermost one, too.
        tasks = ((5, 9, ((0, 5, 0), (1, 3, 1), (2, 1, 2))), (3, 9, ((0, 3, 2), (1, 1, 0))))
        self.assert_same(lock_ring(tasks), (0, 2))

    def test_wrong_arguments(self):
        self.assert_wrong_arguments(lock_ring, (LOCKED_TASKS,), [wrong_locked(errors)])


if __name__ == "__main__":
    unittest.main()
