"""Point 40: deferrable and polling servers."""

import unittest

from eventcore import errors
from eventcore.servers import deferrable_bound, deferrable_units, polling_units
from eventcore.supply import greatest_supply
from support import ANY_VALUES, Checks, is_pair_of, other_kinds, rng_of, wrong_lengths, wrong_things


def plain_units(server, requests, polling):
    """Unit by unit, request by request; there may be any number of requests here."""
    budget, period = server
    queue, left, unit, served = list(requests), 0, 0, []
    remaining = None
    while queue or left:
        if unit % period == 0:
            remaining = budget
        if not left and queue and queue[0][0] <= unit:
            left = queue.pop(0)[1]
        if not left:
            if polling:
                remaining = 0
        elif remaining:
            served.append(unit)
            remaining -= 1
            left -= 1
        unit += 1
    return tuple(served)


def random_requests(rng):
    spread, most = rng.choice((0, 5, 30, 100)), rng.choice((1, 4, 20))
    arrivals = sorted(rng.randint(0, spread) for _ in range(rng.randint(0, 12)))
    return tuple((arrival, rng.randint(1, most)) for arrival in arrivals)


def random_server(rng):
    period = rng.randint(1, rng.choice((3, 8, 20)))
    return (rng.randint(1, period), period)


def most_in_window(served, window):
    return max((len([unit for unit in served if start <= unit < start + window]) for start in served), default=0)


class UnitsTest(Checks, unittest.TestCase):
    def check(self, server, requests):
        rows = []
        for call, polling in ((deferrable_units, False), (polling_units, True)):
            units = self.assert_steady(call, server, requests)
            self.assert_same(units, plain_units(server, requests, polling))
            rows.append(units)
        return rows

    def test_example(self):
        answers = [deferrable_units((2, 5), ((3, 5),)), polling_units((2, 5), ((3, 5),)), deferrable_bound((2, 5), 8)]
        self.assert_same(answers, [(3, 4, 5, 6, 10), (5, 6, 10, 11, 15), 5])

    def test_random_requests(self):
        rng = rng_of(400)
        unlike = 0
        for _ in range(500):
            deferrable, polling = self.check(random_server(rng), random_requests(rng))
            unlike += deferrable != polling
        self.assertGreater(unlike, 100)

    def test_budget_and_period(self):
        requests = ((0, 3), (3, 1), (7, 4))
        # The whole period, and one unit of it.
        for server in ((1, 1), (5, 5), (20, 20)):
            for units in self.check(server, requests)[:1]:
                self.assert_same(units, (0, 1, 2, 3, 7, 8, 9, 10))
        self.assert_same(polling_units((1, 1), requests), (0, 1, 2, 3, 7, 8, 9, 10))
        self.assert_same(polling_units((5, 5), requests), (0, 1, 2, 3, 10, 11, 12, 13))
        self.assert_same(deferrable_units((1, 5), requests), (0, 5, 10, 15, 20, 25, 30, 35))
        self.assert_same(deferrable_units((1, 20), ((19, 2),)), (19, 20))
        self.assert_same(polling_units((1, 20), ((19, 2),)), (20, 40))

    def test_arrivals_at_and_beside_a_multiple_of_the_period(self):
        for arrival in range(12):
            self.check((2, 5), ((arrival, 3),))
            self.check((2, 5), ((arrival, 1), (arrival, 1), (arrival, 1)))
            self.check((2, 5), ((arrival, 1), (arrival + 1, 1)))
        self.assert_same(deferrable_units((2, 5), ((4, 3),)), (4, 5, 6))
        self.assert_same(deferrable_units((2, 5), ((5, 3),)), (5, 6, 10))
        self.assert_same(polling_units((2, 5), ((4, 3),)), (5, 6, 10))
        self.assert_same(polling_units((2, 5), ((5, 3),)), (5, 6, 10))
        self.assert_same(polling_units((2, 5), ((6, 3),)), (10, 11, 15))
        # What is left of the budget is lost when the first request is finished and no other one is there.
        self.assert_same(polling_units((3, 5), ((0, 1), (2, 1))), (0, 5))
        self.assert_same(polling_units((3, 5), ((0, 1), (1, 1))), (0, 1))
        self.assert_same(deferrable_units((3, 5), ((0, 1), (2, 1))), (0, 2))

    def test_no_requests_and_many(self):
        for server in ((1, 1), (2, 5), (20, 20)):
            self.assert_same(deferrable_units(server, ()), ())
            self.assert_same(polling_units(server, ()), ())
        requests = ((100, 20),) * 12
        self.assertEqual(len(deferrable_units((1, 20), requests)), 240)
        self.check((1, 20), requests)
        self.check((20, 20), requests)

    def test_wrong_arguments(self):
        wrong = [wrong_servers(errors), wrong_requests(errors)]
        for call in (deferrable_units, polling_units):
            self.assert_wrong_arguments(call, ((2, 5), ((3, 5), (3, 1))), wrong)


def wrong_servers(errors):
    bad = other_kinds(lambda value: is_pair_of(value, (1, 20), (1, 20)) and value[0] <= value[1])
    bad += [(0, 5), (6, 5), (5, 21), (21, 21), (True, 5), (1, True), (2, None), (2, 5, 5), [2, 5], (2, "5"), (2,),
            (-1, 5), (1, 0), ((2, 5),), {2: 5}, (1, 5, None)]
    return [(value, errors.BadServer()) for value in bad]


def wrong_requests(errors):
    bad = other_kinds(lambda value: is_pair_of(value, (0, 100), (1, 20)))
    bad += [(-1, 5), (101, 5), (0, 0), (0, 21), (True, 5), (0, True), (0, None), (0, 5, 5), [0, 5], (0, "5"), (0,)]
    rows = wrong_things(errors.BadRequests, (0, 5), bad, 12, least=0)
    # Arrivals that do not ascend.
    rows += [(((5, 1), (4, 1)), errors.BadRequests(1)), (((5, 1), (5, 1), (4, 1)), errors.BadRequests(2)),
             (((1, 1), (0, 1), (0, 0)), errors.BadRequests(1)), (((0, 1),) * 13, errors.BadRequests(None)),
             (((100, 1), (99, 20)), errors.BadRequests(1)), (((3, 1), (5, 1), (4, 1), (6, 1)), errors.BadRequests(2)),
             (((3, 0), (2, 1)), errors.BadRequests(0))]
    return rows


class BoundTest(Checks, unittest.TestCase):
    def attained(self, server, window):
        """The most units that one endless request, from whatever time on, is served in a window; unit by unit."""
        rows = []
        for start in range(server[1]):
            served = plain_units(server, ((start, window + 1),), False)
            rows.append(len([unit for unit in served if unit < start + window]))
        return max(rows)

    def test_all_windows_of_small_servers(self):
        for period in range(1, 7):
            for budget in range(1, period + 1):
                for window in range(3 * period + 2):
                    bound = self.assert_steady(deferrable_bound, (budget, period), window)
                    self.assert_same(bound, self.attained((budget, period), window))

    def test_random_windows(self):
        rng = rng_of(401)
        for _ in range(120):
            server = random_server(rng)
            for window in (0, 1, rng.randint(0, 500), 500):
                self.assert_same(deferrable_bound(server, window), self.attained(server, window))

    def test_no_requests_are_served_more(self):
        rng = rng_of(402)
        close = 0
        for _ in range(400):
            server, requests = random_server(rng), random_requests(rng)
            served, polled = deferrable_units(server, requests), polling_units(server, requests)
            table = (1,) * server[0] + (0,) * (server[1] - server[0])
            for window in (1, 2, server[1], rng.randint(0, 40)):
                bound = deferrable_bound(server, window)
                self.assertLessEqual(most_in_window(served, window), bound)
                self.assertLessEqual(most_in_window(polled, window), greatest_supply(table, window))
                close += most_in_window(served, window) == bound
        self.assertGreater(close, 200)

    def test_the_greatest_supply_of_a_polling_server(self):
        rng = rng_of(403)
        for _ in range(60):
            server = random_server(rng)
            table = (1,) * server[0] + (0,) * (server[1] - server[0])
            polled = plain_units(server, ((0, 500),), True)
            for window in (0, 1, server[1], rng.randint(1, 100)):
                self.assertEqual(greatest_supply(table, window), most_in_window(polled, window))

    def test_small_cases(self):
        self.assert_same(deferrable_bound((2, 5), 8), 5)
        self.assert_same(deferrable_bound((2, 5), 0), 0)
        self.assert_same(deferrable_bound((2, 5), 4), 4)
        self.assert_same(deferrable_bound((2, 5), 5), 4)
        self.assert_same(deferrable_bound((1, 20), 500), 26)
        self.assert_same(deferrable_bound((20, 20), 500), 500)
        self.assert_same(deferrable_bound((1, 1), 500), 500)
        self.assert_same(deferrable_bound((10, 20), 500), 260)

    def test_wrong_arguments(self):
        wrong = [wrong_servers(errors), [(value, errors.BadLength()) for value in wrong_lengths(500)]]
        self.assert_wrong_arguments(deferrable_bound, ((2, 5), 500), wrong)
        for value in ANY_VALUES:
            if type(value) is not int:
                self.assert_error(errors.BadLength(), deferrable_bound, (1, 1), value)


if __name__ == "__main__":
    unittest.main()
