"""Points 36 and 37: rings in which every index comes back in time, and frame sizes."""

import unittest
from fractions import Fraction
from itertools import product

from eventcore import errors
from eventcore.rings import frame_sizes, ring_for, shows_ring
from support import (ANY_VALUES, Checks, bent_tuples, hyper, is_whole, random_tasks, rng_of, wrong_tasks)


def plain_ring(distances, value):
    """What point 36 says of a ring: every row of so many consecutive entries, however far on, has the index."""
    if type(value) is not tuple or not value:
        return False
    if any(entry is not None and not is_whole(entry, 0, len(distances) - 1) for entry in value):
        return False
    long = value * (8 // len(value) + 2)
    return all(index in long[start:start + distance]
               for index, distance in enumerate(distances) for start in range(len(value)))


def goes_on(distances):
    """Whether some state goes on without end: states without a next one are taken away until none is left to take.

    A state is how long ago each index occurred last.
    """
    states = set(product(*[range(distance) for distance in distances]))

    def behind(state, entry):
        return tuple(0 if index == entry else ago + 1 for index, ago in enumerate(state))

    gone = True
    while gone:
        gone = [state for state in states if not any(behind(state, entry) in states for entry in range(len(state)))]
        states.difference_update(gone)
    return bool(states)


def density(distances):
    return sum(Fraction(1, distance) for distance in distances)


class RingTest(Checks, unittest.TestCase):
    def check(self, distances, wanted):
        ring = self.assert_steady(ring_for, distances)
        self.assertEqual(ring is not None, wanted, distances)
        if wanted:
            self.assertTrue(plain_ring(distances, ring), (distances, ring))
            self.assertIs(shows_ring(distances, ring), True)

    def test_example(self):
        self.assert_same([ring_for((2, 3, 6)), shows_ring((2, 4, 4), (0, 1, 0, 2))], [None, True])

    def test_all_distances(self):
        counts = {}
        for many in range(1, 5):
            for distances in product(range(1, 9), repeat=many):
                if list(distances) == sorted(distances) and (many < 4 or distances[3] < 7):
                    wanted = goes_on(distances)
                    self.check(distances, wanted)
                    self.check(distances[::-1], wanted)
                    total = density(distances)
                    if total > 1:
                        self.assertFalse(wanted)
                    if total <= Fraction(5, 6) or (total <= 1 and len(set(distances)) <= 2):
                        self.assertTrue(wanted)
                    counts[wanted, total <= 1] = counts.get((wanted, total <= 1), 0) + 1
        self.assertEqual(sorted(counts), [(False, False), (False, True), (True, True)])

    def test_great_distances(self):
        rng = rng_of(360)
        for _ in range(25):
            distances = tuple(rng.randint(3, 8) for _ in range(4))
            self.check(distances, goes_on(distances))

    def test_small_cases(self):
        self.check((1,), True)
        self.check((8,), True)
        self.check((1, 8), False)
        self.check((1, 1), False)
        self.check((2, 2), True)
        self.check((2, 2, 8), False)
        self.check((3, 3, 3), True)
        self.check((4, 4, 4, 4), True)
        self.check((8, 8, 8, 8), True)
        self.check((3, 4, 4), True)
        self.check((3, 3, 4), True)
        self.check((3, 3, 2), False)
        self.check((2, 4, 8, 8), True)
        self.check((2, 4, 7, 8), False)
        # Two unlike distances with a sum of exactly 1, and just above it.
        self.check((2, 4, 4), True)
        self.check((3, 3, 6, 6), True)
        self.check((3, 3, 5, 5), False)
        self.check((2, 6, 6, 6), True)
        self.check((2, 5, 5, 5), False)

    def test_turned_cut_and_bent_rings(self):
        rng = rng_of(361)
        counts = [0, 0]
        for _ in range(150):
            distances = tuple(rng.randint(2, 8) for _ in range(rng.randint(1, 4)))
            ring = ring_for(distances)
            if ring is None:
                continue
            place = rng.randrange(len(ring))
            self.assertIs(shows_ring(distances, ring[place:] + ring[:place]), True)
            self.assertIs(shows_ring(distances, ring * 3), True)
            self.assertIs(shows_ring(distances, ring[::-1]), True)
            values = bent_tuples(rng, ring, many=12, numbers=(-1, 1, 2)) + [ring[:place], ring[place:], ()]
            values.append(ring[:place] + (None,) + ring[place + 1:])
            values.append(ring[:place] + (rng.randrange(len(distances)),) + ring[place:])
            for value in values:
                wanted = plain_ring(distances, value)
                self.assertIs(self.assert_steady(shows_ring, distances, value), wanted, (distances, value))
                counts[wanted] += 1
        self.assertGreater(min(counts), 200)

    def test_judge_on_all_short_values(self):
        for distances in ((1,), (2,), (2, 2), (3, 2), (4, 2, 8), (3, 3, 3), (1, 4)):
            entries = [None, *range(len(distances)), len(distances)]
            for many in range(5):
                for value in product(entries, repeat=many):
                    self.assertIs(shows_ring(distances, value), plain_ring(distances, value), (distances, value))

    def test_values_of_other_kinds(self):
        for value in ANY_VALUES:
            self.assertIs(self.assert_steady(shows_ring, (8, 8), value), value == (0, 1) and type(value[0]) is int)
            self.assertIs(self.assert_steady(shows_ring, (8,), value), value == (0,) and type(value[0]) is int)
        for value in ((None, 0), (0, None), (None, 0, None, None), (0,) * 50, (None,) * 7 + (0,)):
            self.assertIs(shows_ring((8,), value), True)
        for value in ((None,), (None,) * 20, (None,) * 8 + (0,), (0, None, True), (0, False), [0], (0, "0"), "0",
                      (0, -1), (0, 1), (0, ()), ((0,),), {0: 0}, (0, 10 ** 30)):
            self.assertIs(shows_ring((8,), value), False)

    def test_wrong_arguments(self):
        bad = [value for value in ANY_VALUES
               if type(value) is not tuple or not value or not all(is_whole(entry, 1, 8) for entry in value)]
        bad += [(1,) * 5, (0,), (9,), (5, 0), (5, 9), (5, True), (True,), (5, None), (5, "5"), (5, (5,)), [5, 5],
                (5, -1), (None,) * 5, {5: 5}]
        wrong = [[(value, errors.BadDistances()) for value in bad]]
        self.assert_wrong_arguments(ring_for, ((1, 8, 2),), wrong)
        self.assert_wrong_arguments(shows_ring, ((1, 8, 2), (0, 1, 2)), wrong)


class FrameTest(Checks, unittest.TestCase):
    def plain(self, tasks):
        """The sizes of which a whole frame lies between each arrival and its due time, by all arrivals."""
        common = hyper(tasks)
        sizes = []
        for size in range(1, common + 1):
            if common % size == 0:
                frames = [(start, start + size) for start in range(0, 2 * common + 121, size)]
                if all(any(arrival <= start and stop <= arrival + deadline for start, stop in frames)
                       for _, deadline, gap in tasks for arrival in range(0, common, gap)):
                    sizes.append(size)
        return tuple(sizes)

    def test_example(self):
        self.assert_same(frame_sizes(((1, 4, 4), (1, 5, 6))), (1, 2))

    def test_random_tasks(self):
        rng = rng_of(370)
        found = {}
        for _ in range(200):
            tasks = random_tasks(rng, most=3, most_gap=rng.choice((6, 12)), most_deadline=rng.choice((5, 20, 60)))
            if hyper(tasks) <= 60:
                sizes = self.assert_steady(frame_sizes, tasks)
                self.assert_same(sizes, self.plain(tasks))
                found[len(sizes)] = True
        self.assertGreater(len(found), 4)

    def test_one_task(self):
        for gap in (1, 2, 6, 12, 30):
            for deadline in range(1, 61):
                tasks = ((1, deadline, gap),)
                self.assert_same(frame_sizes(tasks), self.plain(tasks))
        # Frames may be longer than the gap if the deadline is.
        self.assert_same(frame_sizes(((1, 60, 1), (1, 60, 30))), (1, 2, 3, 5, 6, 10, 15, 30))
        self.assert_same(frame_sizes(((1, 1, 1),)), (1,))
        self.assert_same(frame_sizes(((20, 1, 2),)), (1,))

    def test_the_least_common_multiple(self):
        tasks = ((1, 60, 48), (1, 60, 60))
        self.assertEqual(hyper(tasks), 240)
        self.assert_same(frame_sizes(tasks), self.plain(tasks))
        self.assert_same(frame_sizes(((1, 9, 16), (1, 9, 15))), self.plain(((1, 9, 16), (1, 9, 15))))
        # 245 is the next least common multiple of gaps.
        for gaps in ((49, 5), (5, 49, 5), (31, 8), (59, 60), (59, 58, 57, 56, 55, 53)):
            self.assert_error(errors.TooMany(240), frame_sizes, tuple((1, 9, gap) for gap in gaps))

    def test_wrong_arguments(self):
        self.assert_wrong_arguments(frame_sizes, (((1, 4, 4), (1, 5, 6)),), [wrong_tasks(errors)])
        self.assert_error(errors.BadTasks(2), frame_sizes, ((1, 9, 59), (1, 9, 58), (0, 1, 1)))


if __name__ == "__main__":
    unittest.main()
