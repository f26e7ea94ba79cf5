"""Point 15: slots, their first collision, and free offsets."""

import unittest
from itertools import combinations, product
from math import gcd, lcm

from eventcore import errors
from eventcore.slots import first_collision, free_offsets
from support import Checks, is_pair_of, other_kinds, rng_of, wrong_pairs, wrong_things


def occupied(slot, stop):
    """The units before stop that the slot occupies."""
    offset, cost, gap = slot
    return {start + step for start in range(offset, stop, gap) for step in range(cost) if start + step < stop}


def plain_collision(slots):
    """The least unit that two slots occupy, by listing the units up to a time after which all comes back."""
    stop = 62 + max(lcm(one[2], other[2]) for one in slots for other in slots)
    found = [unit for one, other in combinations(slots, 2) for unit in occupied(one, stop) & occupied(other, stop)]
    return min(found, default=None)


def random_slot(rng, most_gap=60, most_cost=60, most_offset=60):
    gap = rng.randint(1, most_gap)
    return (rng.randint(0, most_offset), rng.randint(1, min(gap, most_cost)), gap)


class FirstCollisionTest(Checks, unittest.TestCase):
    def test_example(self):
        self.assert_same([first_collision(((0, 1, 2), (5, 1, 3))), free_offsets(((1, 2), (1, 4), (1, 4)))],
                         [8, (0, 1, 3)])

    def test_random_slots(self):
        rng = rng_of(150)
        counts = {}
        for _ in range(600):
            most = rng.choice((6, 12, 60))
            slots = tuple(random_slot(rng, most, rng.choice((1, 2, most))) for _ in range(rng.randint(1, 6)))
            if rng.random() < 0.4:
                # Equal or related gaps, which often do not collide.
                gap = rng.choice((6, 12, 60))
                slots = tuple((rng.randint(0, 60), rng.randint(1, 2), gap // rng.choice((1, 1, 2)))
                              for _ in range(rng.randint(1, 4)))
            wanted = plain_collision(slots)
            self.assert_same(self.assert_steady(first_collision, slots), wanted)
            key = None if wanted is None else wanted > 62
            counts[key] = counts.get(key, 0) + 1
        self.assertEqual(len(counts), 3)
        self.assertGreater(min(counts.values()), 20)

    def test_the_condition_of_the_document(self):
        rng = rng_of(151)
        for _ in range(400):
            one, other = random_slot(rng, 12, 4), random_slot(rng, 12, 4)
            common = gcd(one[2], other[2])
            never = one[1] <= (other[0] - one[0]) % common <= common - other[1]
            self.assertEqual(first_collision((one, other)) is None, never)

    def test_far_behind_the_offsets(self):
        for slots in (((0, 1, 59), (1, 1, 60)), ((2, 1, 60), (1, 1, 59)), ((2, 1, 59), (1, 1, 58)),
                      ((1, 1, 60), (0, 1, 59)), ((59, 1, 57), (60, 1, 58))):
            wanted = plain_collision(slots)
            self.assertGreater(wanted, 1000)
            self.assert_same(first_collision(slots), wanted)

    def test_small_cases(self):
        self.assert_same(first_collision(((3, 2, 7),)), None)
        self.assert_same(first_collision(((60, 60, 60),)), None)
        # Slots that touch do not collide.
        self.assert_same(first_collision(((0, 3, 6), (3, 3, 6))), None)
        self.assert_same(first_collision(((0, 3, 6), (2, 3, 6))), 2)
        self.assert_same(first_collision(((0, 3, 6), (3, 4, 6))), 6)
        self.assert_same(first_collision(((3, 3, 6), (0, 3, 3))), 3)
        self.assert_same(first_collision(((5, 1, 6), (5, 1, 6))), 5)
        # Before its offset a slot occupies nothing, however its units would go on to the front.
        self.assert_same(first_collision(((60, 1, 2), (0, 1, 2))), 60)
        self.assert_same(first_collision(((1, 1, 1), (0, 1, 1))), 1)
        # The least unit of all pairs, not that of the first pair.
        self.assert_same(first_collision(((0, 1, 60), (60, 1, 60), (20, 1, 60), (10, 11, 60))), 20)

    def test_wrong_arguments(self):
        def fits(value):
            return is_pair_of(value, (0, 60), (1, 60), (1, 60)) and value[1] <= value[2]
        bad = other_kinds(fits) + [(-1, 1, 5), (61, 1, 5), (0, 0, 5), (0, 6, 5), (0, 1, 61), (0, 1, 0), (0, 61, 61),
                                   (False, 1, 5), (0, True, 5), (0, 1, True), (0, 1), (0, 1, 5, 5), [0, 1, 5],
                                   (0, 1, None), ("0", 1, 5), (0, (1,), 5), (0, 5, 4)]
        wrong = wrong_things(errors.BadSlots, (0, 1, 5), bad, 6)
        self.assert_wrong_arguments(first_collision, (((0, 1, 5),),), [wrong])


class FreeOffsetsTest(Checks, unittest.TestCase):
    def plain(self, pairs):
        """The least offsets by trying all, each pair checked unit by unit."""
        for offsets in product(*[range(gap) for _, gap in pairs]):
            slots = tuple((offset, cost, gap) for offset, (cost, gap) in zip(offsets, pairs))
            if len(slots) == 1 or plain_collision(slots) is None:
                return offsets
        return None

    def test_random_pairs(self):
        rng = rng_of(152)
        counts = {}
        for _ in range(150):
            gaps = rng.choice(((2, 4), (2, 4, 6), (3, 6), (4, 6, 12), (2, 3, 5, 7), (4, 8)))
            pairs = tuple((rng.randint(1, min(gap, rng.choice((1, 2, 3)))), gap)
                          for gap in [rng.choice(gaps) for _ in range(rng.randint(1, 3))])
            wanted = self.plain(pairs)
            self.assert_same(self.assert_steady(free_offsets, pairs), wanted)
            key = (wanted is None, len(pairs))
            counts[key] = counts.get(key, 0) + 1
        for key in ((False, 1), (False, 2), (False, 3), (True, 2), (True, 3)):
            self.assertGreater(counts[key], 3)

    def test_small_cases(self):
        self.assert_same(free_offsets(((12, 12),)), (0,))
        self.assert_same(free_offsets(((6, 12), (6, 12))), (0, 6))
        self.assert_same(free_offsets(((6, 12), (7, 12))), None)
        self.assert_same(free_offsets(((1, 11), (1, 12))), None)
        self.assert_same(free_offsets(((2, 6), (1, 4))), None)
        self.assert_same(free_offsets(((1, 6), (1, 4))), (0, 1))
        self.assert_same(free_offsets(((3, 12), (3, 12), (3, 12), (3, 12))), (0, 3, 6, 9))
        self.assert_same(free_offsets(((1, 4), (1, 4), (1, 2))), (0, 2, 1))
        self.assert_same(free_offsets(((1, 4), (2, 4), (1, 2))), None)
        self.assert_same(free_offsets(((1, 4), (1, 2), (1, 4))), (0, 1, 2))
        self.assert_same(free_offsets(((1, 12), (1, 6), (1, 4))), (0, 1, 2))
        self.assert_same(free_offsets(((1, 1), (1, 1))), None)

    def test_four_pairs(self):
        rng = rng_of(153)
        for _ in range(60):
            pairs = tuple((rng.randint(1, 2), rng.choice((4, 8, 12))) for _ in range(4))
            found = free_offsets(pairs)
            if found is not None:
                slots = tuple((offset, cost, gap) for offset, (cost, gap) in zip(found, pairs))
                self.assertIsNone(plain_collision(slots))
        for pairs in (((1, 4), (1, 8), (1, 8), (1, 4)), ((1, 4), (2, 4), (1, 8), (1, 8)),
                      ((2, 4), (1, 4), (2, 4), (1, 4))):
            self.assert_same(free_offsets(pairs), self.plain(pairs))

    def test_wrong_arguments(self):
        self.assert_wrong_arguments(free_offsets, (((1, 2),),), [wrong_pairs(errors)])


if __name__ == "__main__":
    unittest.main()
