"""Points 22 to 24: links, jobs that run from time 0 on, and tightened jobs."""

import unittest
from itertools import combinations, permutations

from eventcore import errors
from eventcore.interrupted import unit_schedule
from eventcore.linked import best_units, least_late_order, linked_schedule, most_on_time, tightened
from support import (Checks, plain_units, random_links, random_long_jobs, rng_of, units_exist, wrong_links,
                     wrong_long_jobs, wrong_pair_jobs)

THREE = ((0, 3, 9), (1, 2, 4), (2, 1, 4))


def lateness(jobs, order):
    time, worst = 0, -1000
    for job in order:
        time += jobs[job][1]
        worst = max(worst, time - jobs[job][2])
    return worst


def keeps(order, links):
    return all(order.index(before) < order.index(after) for before, after in links)


class LinksTest(Checks, unittest.TestCase):
    def test_wrong_arguments(self):
        for call in (least_late_order, tightened, linked_schedule):
            self.assert_wrong_arguments(call, (THREE, ((0, 1),)), [wrong_long_jobs(errors), wrong_links(errors)])

    def test_twelve_and_thirteen(self):
        many = tuple((0, 1, 50) for _ in range(7))
        rows = tuple(combinations(range(7), 2))
        for call in (least_late_order, tightened, linked_schedule):
            call(many, rows[:12])
            call(many, ((0, 1),) * 12)
            self.assert_error(errors.BadLinks(None), call, many, rows[:13])
            self.assert_error(errors.BadLinks(None), call, many, ((0, 1),) * 13)
            # Thirteen things are too many, whatever they are.
            self.assert_error(errors.BadLinks(None), call, many, (None,) * 13)

    def test_rings(self):
        jobs = tuple((0, 1, 50) for _ in range(5))
        for links in (((0, 1), (1, 0)), ((3, 4), (4, 3)), ((0, 1), (1, 2), (2, 3), (3, 4), (4, 0)),
                      ((4, 2), (0, 1), (2, 3), (3, 4)), ((0, 1), (0, 1), (1, 2), (2, 1))):
            for call in (least_late_order, tightened, linked_schedule):
                self.assert_error(errors.BadLinks(None), call, jobs, links)
                self.assert_error(errors.BadLinks(len(links)), call, jobs, (*links, (5, 0)))
                self.assert_error(errors.BadLinks(0), call, jobs, ((0, 0), *links))
        for links in (((0, 1), (1, 2), (0, 2)), ((0, 1), (0, 1)), ((4, 3), (3, 2), (2, 1), (1, 0), (4, 0))):
            for call in (least_late_order, tightened, linked_schedule):
                call(jobs, links)
        # A link to a job that is not there.
        self.assert_error(errors.BadLinks(0), least_late_order, ((0, 1, 5),), ((0, 1),))
        self.assert_same(least_late_order(((0, 1, 5),), ()), (0,))


class LeastLateOrderTest(Checks, unittest.TestCase):
    def test_random_jobs(self):
        rng = rng_of(220)
        linked = 0
        for _ in range(250):
            jobs = random_long_jobs(rng, most=6, slack=20)
            links = random_links(rng, len(jobs), most=rng.choice((0, 3, 8)))
            order = self.assert_steady(least_late_order, jobs, links)
            self.assertIs(type(order), tuple)
            self.assertEqual(sorted(order), list(range(len(jobs))))
            self.assertTrue(keeps(order, links))
            wanted = min(lateness(jobs, other) for other in permutations(range(len(jobs))) if keeps(other, links))
            self.assertEqual(lateness(jobs, order), wanted)
            free = min(lateness(jobs, other) for other in permutations(range(len(jobs))))
            linked += free < wanted
        self.assertGreater(linked, 30)

    def test_small_cases(self):
        self.assert_same(least_late_order(((0, 1, 5), (0, 9, 4)), ()), (1, 0))
        self.assert_same(least_late_order(((0, 1, 5), (0, 9, 4)), ((0, 1),)), (0, 1))
        # The arrivals do not matter.
        self.assert_same(least_late_order(((90, 1, 5), (0, 9, 6)), ()), (0, 1))
        self.assert_same(least_late_order(THREE, ((0, 1), (2, 1)))[2], 1)
        # A job in front of an urgent one comes early, however late its own due time is.
        self.assert_same(least_late_order(((0, 4, 100), (0, 1, 5), (0, 3, 8)), ((0, 1),)), (0, 1, 2))
        self.assert_same(least_late_order(((0, 1, 9), (0, 1, 8), (0, 1, 7)), ((0, 1), (1, 2))), (0, 1, 2))


class MostOnTimeTest(Checks, unittest.TestCase):
    def on_time(self, jobs, members):
        """Whether the members can all be on time: in some order, of all orders."""
        return any(lateness(jobs, order) <= 0 for order in permutations(members))

    def test_example(self):
        answers = [tightened(THREE, ((0, 1),)), most_on_time(((0, 4, 5), (0, 3, 5), (0, 2, 5)))]
        self.assert_same(answers, [((0, 3, 2), (3, 2, 4), (2, 1, 4)), (1, 2)])

    def test_random_jobs(self):
        rng = rng_of(230)
        counts = {}
        for _ in range(250):
            jobs = tuple((rng.randint(0, 100), rng.randint(1, 6), rng.randint(0, 18)) for _ in range(rng.randint(1, 6)))
            found = self.assert_steady(most_on_time, jobs)
            self.assertIs(type(found), tuple)
            self.assertEqual(list(found), sorted(set(found)))
            self.assertTrue(self.on_time(jobs, found))
            more = combinations(range(len(jobs)), len(found) + 1)
            self.assertFalse(any(self.on_time(jobs, members) for members in more), jobs)
            key = "none" if not found else "all" if len(found) == len(jobs) else "some"
            counts[key] = counts.get(key, 0) + 1
        self.assertEqual(len(counts), 3)

    def test_small_cases(self):
        self.assert_same(most_on_time(((0, 1, 0),)), ())
        self.assert_same(most_on_time(((0, 20, 20),)), (0,))
        self.assert_same(most_on_time(((0, 20, 19),)), ())
        # A job that fits is given up for two shorter ones.
        self.assert_same(most_on_time(((0, 6, 6), (0, 3, 7), (0, 4, 7))), (1, 2))
        self.assert_same(most_on_time(tuple((0, 10, 10 * count) for count in range(1, 8))), tuple(range(7)))

    def test_wrong_arguments(self):
        self.assert_wrong_arguments(most_on_time, (THREE,), [wrong_long_jobs(errors)])


class BestUnitsTest(Checks, unittest.TestCase):
    def plain(self, jobs):
        """The greatest sum of weights of all sets of jobs that can all be finished in time."""
        best = 0
        for many in range(len(jobs) + 1):
            for members in combinations(range(len(jobs)), many):
                if self.fits(jobs, members):
                    best = max(best, sum(jobs[job][1] for job in members))
        return best

    def fits(self, jobs, members):
        return all(due >= place for place, due in enumerate(sorted(jobs[job][0] for job in members), 1))

    def test_random_jobs(self):
        rng = rng_of(231)
        cut = 0
        for _ in range(300):
            most = rng.choice((1, 3, 100))
            jobs = tuple((rng.randint(0, rng.choice((2, 5, 9))), rng.randint(0, most))
                         for _ in range(rng.randint(1, 8)))
            found = self.assert_steady(best_units, jobs)
            self.assertIs(type(found), tuple)
            self.assertEqual(list(found), sorted(set(found)))
            self.assertTrue(self.fits(jobs, found))
            self.assertEqual(sum(jobs[job][1] for job in found), self.plain(jobs), jobs)
            cut += len(found) < len([due for due, _ in jobs if due > 0])
        self.assertGreater(cut, 50)

    def test_small_cases(self):
        self.assert_same(best_units(((0, 100),)), ())
        self.assert_same(best_units(((1, 100),)), (0,))
        self.assert_same(best_units(((1, 3), (1, 4), (0, 100))), (1,))
        # The job with the greater weight comes first in time only if its due time asks for it.
        self.assert_same(best_units(((2, 9), (1, 8), (2, 7))), (0, 1))
        self.assert_same(best_units(((1, 9), (2, 8), (2, 7))), (0, 1))
        self.assert_same(best_units(((8, 5),) * 8), tuple(range(8)))
        self.assertEqual(len(best_units(((3, 5),) * 8)), 3)
        self.assert_same(best_units(((100, 1), (100, 1))), (0, 1))

    def test_wrong_arguments(self):
        self.assert_wrong_arguments(best_units, (((1, 5), (0, 0)),), [wrong_pair_jobs(errors)])


class TightenedTest(Checks, unittest.TestCase):
    def plain(self, jobs, links):
        """Raises and lowers the entries one by one, until all links are kept."""
        rows = [list(job) for job in jobs]
        changed = True
        while changed:
            changed = False
            for before, after in links:
                if rows[after][0] < rows[before][0] + rows[before][1]:
                    rows[after][0] = rows[before][0] + rows[before][1]
                    changed = True
                if rows[before][2] > rows[after][2] - rows[after][1]:
                    rows[before][2] = rows[after][2] - rows[after][1]
                    changed = True
        return tuple(tuple(row) for row in rows)

    def test_random_jobs(self):
        rng = rng_of(240)
        counts = {}
        for _ in range(500):
            jobs = random_long_jobs(rng, most=7, slack=rng.choice((5, 30)))
            links = random_links(rng, len(jobs), most=rng.choice((2, 5, 12)))
            wanted = self.plain(jobs, links)
            self.assert_same(self.assert_steady(tightened, jobs, links), wanted)
            counts[wanted == jobs] = counts.get(wanted == jobs, 0) + 1
        self.assertGreater(min(counts.values()), 50)

    def test_entries_out_of_range(self):
        self.assert_same(tightened(((100, 20, 100), (0, 20, 5)), ((0, 1),)), ((100, 20, -15), (120, 20, 5)))
        self.assert_same(tightened(((100, 20, 100), (0, 20, 100), (0, 20, 0)), ((0, 1), (1, 2))),
                         ((100, 20, -40), (120, 20, -20), (140, 20, 0)))
        self.assert_same(tightened(((0, 1, 0),), ()), ((0, 1, 0),))
        # Equal links, and a link that others imply, change nothing more.
        self.assert_same(tightened(THREE, ((0, 1), (0, 1))), tightened(THREE, ((0, 1),)))
        self.assert_same(tightened(THREE, ((0, 2), (2, 1), (0, 1))), tightened(THREE, ((2, 1), (0, 2))))
        # The other way along the indexes.
        self.assert_same(tightened(THREE, ((2, 0), (1, 2))), ((4, 3, 9), (1, 2, 3), (3, 1, 4)))


class LinkedScheduleTest(Checks, unittest.TestCase):
    def keeps_links(self, units, links):
        ends = {job: unit for unit, job in enumerate(units)}
        return all(ends[before] < units.index(after) for before, after in links)

    def test_random_jobs(self):
        rng = rng_of(241)
        counts = {}
        for _ in range(500):
            jobs = random_long_jobs(rng, most=5, most_length=3, spread=6, slack=rng.choice((4, 9, 14)))
            links = random_links(rng, len(jobs), most=5)
            wanted = units_exist(jobs, links=links)
            units = self.assert_steady(linked_schedule, jobs, links)
            self.assertEqual(units is not None, wanted, (jobs, links))
            if wanted:
                self.assertTrue(plain_units(jobs, units), (jobs, links, units))
                self.assertTrue(self.keeps_links(units, links), (jobs, links, units))
            key = (wanted, unit_schedule(jobs) is not None)
            counts[key] = counts.get(key, 0) + 1
        for key in ((True, True), (False, True), (False, False)):
            self.assertGreater(counts[key], 40)

    def test_small_cases(self):
        self.assert_same(linked_schedule(((0, 2, 9), (0, 1, 9)), ((1, 0),)), (1, 0, 0))
        self.assert_same(linked_schedule(((0, 2, 9), (0, 1, 9)), ((0, 1),)), (0, 0, 1))
        self.assert_same(linked_schedule(((0, 2, 9), (0, 1, 2)), ((0, 1),)), None)
        self.assertEqual(sorted(linked_schedule(((0, 2, 3), (0, 1, 2)), ())), [0, 0, 1])
        self.assert_same(linked_schedule(((5, 1, 9), (0, 1, 7)), ((0, 1),)), (None,) * 5 + (0, 1))


if __name__ == "__main__":
    unittest.main()
