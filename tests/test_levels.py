"""Points 29 and 30: jobs of one unit with parents or links, in as few steps as possible."""

import unittest
from itertools import combinations

from eventcore import errors
from eventcore.levels import level_bound, level_steps, two_machine_steps
from support import (ANY_VALUES, Checks, is_whole, random_links, rng_of, wrong_links, wrong_machines, wrong_numbers,
                     wrong_things)


def plain_steps(many, links, machines, value):
    """What point 29 says of unit steps."""
    if type(value) is not tuple:
        return False
    place = {}
    for count, step in enumerate(value):
        if type(step) is not tuple or not 1 <= len(step) <= machines or list(step) != sorted(set(step)):
            return False
        for job in step:
            if not is_whole(job, 0, many - 1) or job in place:
                return False
            place[job] = count
    return len(place) == many and all(place[before] < place[after] for before, after in links)


def fewest_steps(many, links, machines):
    """The number of the fewest unit steps, by all sets of finished jobs and all steps, full ones or not."""
    reached, count = {frozenset()}, 0
    while frozenset(range(many)) not in reached:
        further = set()
        for done in reached:
            ready = [job for job in range(many)
                     if job not in done and all(before in done for before, after in links if after == job)]
            for size in range(1, machines + 1):
                further.update(done | set(step) for step in combinations(ready, size))
        reached, count = further, count + 1
    return count


def parent_links(parents):
    return tuple((job, parent) for job, parent in enumerate(parents) if parent is not None)


def random_parents(rng, most=10):
    many, roots, near = rng.randint(1, most), rng.choice((0, 0.1, 0.3, 0.7)), rng.choice((1, 2, 9))
    if rng.random() < 0.3:
        # Many jobs in front of a chain.
        trunk = rng.randint(0, many - 1)
        return tuple(max(trunk, job + 1) for job in range(many - 1)) + (None,)
    return tuple(None if job == many - 1 or rng.random() < roots else rng.randint(job + 1, min(many - 1, job + near))
                 for job in range(many))


def plain_bound(parents, machines):
    levels = []
    for job in range(len(parents)):
        level = 1
        while parents[job] is not None:
            job, level = parents[job], level + 1
        levels.append(level)
    bounds = []
    for low in range(20):
        many = sum(level > low for level in levels)
        if many:
            bounds.append(low + many // machines + (many % machines > 0))
    return max(bounds)


class LevelsTest(Checks, unittest.TestCase):
    def check(self, parents, machines):
        steps = self.assert_steady(level_steps, parents, machines)
        links = parent_links(parents)
        self.assertTrue(plain_steps(len(parents), links, machines, steps), (parents, machines, steps))
        bound = self.assert_steady(level_bound, parents, machines)
        self.assert_same(bound, plain_bound(parents, machines))
        self.assertEqual(len(steps), bound, (parents, machines))
        if len(parents) <= 7:
            self.assertEqual(len(steps), fewest_steps(len(parents), links, machines), (parents, machines))
        return bound

    def test_example(self):
        self.assert_same([level_bound((2, 2, None), 1), level_steps((2, 2, None), 2)], [3, ((0, 1), (2,))])

    def test_random_forests(self):
        rng = rng_of(290)
        above = 0
        for _ in range(600):
            parents, machines = random_parents(rng), rng.randint(1, 4)
            bound = self.check(parents, machines)
            # Neither the longest chain nor the number of jobs alone decides.
            longest = plain_bound(parents, 20)
            above += bound > max(longest, -(-len(parents) // machines))
        self.assertGreater(above, 20)

    def test_all_small_forests(self):
        rows = [()]
        for _ in range(4):
            rows = [(*row, parent) for row in rows for parent in (None, 0, 1, 2, 3, 4)]
            for row in rows:
                many = len(row)
                if all(parent is None or job < parent < many for job, parent in enumerate(row)):
                    for machines in range(1, 5):
                        self.check(row, machines)

    def test_chains_and_single_jobs(self):
        for many in range(1, 11):
            chain = tuple(range(1, many)) + (None,)
            for machines in range(1, 5):
                self.assert_same(level_steps(chain, machines), tuple((job,) for job in range(many)))
                self.assertEqual(level_bound(chain, machines), many)
                self.check((None,) * many, machines)
                self.assertEqual(level_bound((None,) * many, machines), -(-many // machines))
            self.assert_same(level_bound((None,) * many, 1), many)
        self.assert_same(level_steps((None,), 1), ((0,),))
        self.assert_same(level_steps((None,), 4), ((0,),))
        self.assert_same(level_steps((None, None, None), 4), ((0, 1, 2),))
        # All jobs lead to the last one.
        self.check((9,) * 9 + (None,), 4)
        self.assertEqual(level_bound((9,) * 9 + (None,), 4), 4)

    def test_long_chains_go_first(self):
        # The chain 0 - 7 - 8 - 9 must not wait for the single jobs.
        self.assertEqual(self.check((7, None, None, None, None, None, None, 8, 9, None), 2), 5)
        self.assertEqual(self.check((None, None, None, None, None, 6, 7, 8, 9, None), 2), 5)

    def test_wrong_arguments(self):
        bad = [value for value in ANY_VALUES if value is not None and not is_whole(value, 1, 9)]
        rows = wrong_things(errors.BadParents, None, bad, 10)
        rows += [((0,), errors.BadParents(0)), ((1,), errors.BadParents(0)), ((1, 1), errors.BadParents(1)),
                 ((1, 0), errors.BadParents(1)), ((2, None), errors.BadParents(0)), ((-1, None), errors.BadParents(0)),
                 ((2, 2, 2), errors.BadParents(2)), ((2, 1, None), errors.BadParents(1)),
                 ((1, 3, None), errors.BadParents(1)), ((None, None, True), errors.BadParents(2)),
                 ((True, None, None), errors.BadParents(0)), ((None,) * 9 + (10,), errors.BadParents(9)),
                 ((10,) + (None,) * 9, errors.BadParents(0)), (("1", None), errors.BadParents(0)),
                 (((1,), None), errors.BadParents(0)), ((None, [2], None), errors.BadParents(1))]
        for call in (level_steps, level_bound):
            self.assert_wrong_arguments(call, ((2, 2, None), 2), [rows, wrong_machines(errors)])
            call((9,) * 9 + (None,), 4)


class TwoMachinesTest(Checks, unittest.TestCase):
    def check(self, many, links):
        steps = self.assert_steady(two_machine_steps, many, links)
        self.assertTrue(plain_steps(many, links, 2, steps), (many, links, steps))
        self.assertEqual(len(steps), fewest_steps(many, links, 2), (many, links, steps))

    def test_random_links(self):
        rng = rng_of(300)
        sizes = {}
        for _ in range(300):
            many = rng.randint(1, 8)
            links = random_links(rng, many, most=12)
            sizes[len(links)] = True
            self.check(many, links)
        self.assertEqual(sorted(sizes), list(range(13)))

    def test_without_links(self):
        for many in range(1, 9):
            self.check(many, ())
            self.assertEqual(len(two_machine_steps(many, ())), (many + 1) // 2)
        self.assert_same(two_machine_steps(1, ()), ((0,),))
        self.assert_same(two_machine_steps(2, ()), ((0, 1),))

    def test_links_in_all_forms(self):
        chain = tuple((job, job + 1) for job in range(7))
        self.assert_same(two_machine_steps(8, chain), tuple((job,) for job in range(8)))
        self.assert_same(two_machine_steps(3, ((2, 1), (1, 0))), ((2,), (1,), (0,)))
        self.assert_same(two_machine_steps(2, ((1, 0),)), ((1,), (0,)))
        for links in (((0, 1),) * 12, ((0, 1), (0, 1), (0, 2)), ((0, 7), (1, 7), (2, 7), (3, 7)),
                      ((7, 0), (7, 1), (7, 2), (7, 3)), ((0, 2), (1, 2), (2, 3), (2, 4), (3, 5), (4, 5)),
                      ((0, 3), (0, 4), (0, 5), (1, 3), (1, 4), (1, 5), (2, 3), (2, 4), (2, 5)),
                      ((0, 4), (1, 4), (2, 5), (3, 5), (4, 6), (5, 6), (0, 6), (3, 6), (2, 6), (1, 6), (6, 7), (0, 7)),
                      # Links that others imply.
                      ((0, 1), (1, 2), (0, 2), (2, 3), (0, 3), (1, 3)), ((0, 4), (4, 5), (0, 5), (1, 5), (2, 3))):
            self.check(8, links)

    def test_the_right_job_must_go_first(self):
        # Job 5 has everything behind it; to begin with 0 and 1 would cost one step.
        self.check(6, ((5, 2), (2, 3), (3, 4)))
        self.assertEqual(len(two_machine_steps(6, ((5, 2), (2, 3), (3, 4)))), 4)

    def test_wrong_arguments(self):
        wrong = [[(value, errors.BadNumber()) for value in wrong_numbers(1, 8)], wrong_links(errors)]
        self.assert_wrong_arguments(two_machine_steps, (3, ((0, 1),)), wrong)
        for many in (0, 9):
            self.assert_error(errors.BadNumber(), two_machine_steps, many, ())
        # The number of jobs says which links there may be.
        self.assert_error(errors.BadLinks(0), two_machine_steps, 1, ((0, 1),))
        self.assert_error(errors.BadLinks(1), two_machine_steps, 7, ((0, 6), (0, 7)))
        self.assertEqual(len(two_machine_steps(8, ((0, 6), (0, 7)))), 4)
        self.assert_error(errors.BadLinks(None), two_machine_steps, 8, ((6, 7), (7, 6)))
        self.assert_error(errors.BadLinks(None), two_machine_steps, 8, ((0, 1),) * 13)


if __name__ == "__main__":
    unittest.main()
