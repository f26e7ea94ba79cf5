"""Slots that come back after a gap: their first collision, and offsets for which they never collide."""

from itertools import combinations
from math import gcd

from eventcore.errors import BadPairs, BadSlots
from eventcore.values import is_row, is_tuple

MOST_SLOTS = 6
LAST_OFFSET = 60
MOST_GAP = 60
MOST_PAIRS = 4
MOST_PAIR_GAP = 12


def is_slot(value):
    """Tell whether the value is a slot (offset, cost, gap)."""
    return is_row(value, ((0, LAST_OFFSET), (1, MOST_GAP), (1, MOST_GAP))) and value[1] <= value[2]


def check_slots(slots):
    """Raise BadSlots unless the value is a tuple of slots."""
    if not is_tuple(slots, 1, MOST_SLOTS):
        raise BadSlots(None)
    for index, value in enumerate(slots):
        if not is_slot(value):
            raise BadSlots(index)


def check_pairs(pairs):
    """Raise BadPairs unless the value is a tuple of pairs (cost, gap)."""
    if not is_tuple(pairs, 1, MOST_PAIRS):
        raise BadPairs(None)
    for index, value in enumerate(pairs):
        if not is_row(value, ((1, MOST_PAIR_GAP), (1, MOST_PAIR_GAP))) or value[0] > value[1]:
            raise BadPairs(index)


def collide(one, other):
    """Tell whether two slots ever occupy the same unit."""
    common = gcd(one[2], other[2])
    shift = (other[0] - one[0]) % common
    return shift < one[1] or shift > common - other[1]


def occupies(slot, unit):
    """Tell whether the slot occupies the unit, which is not before its offset."""
    offset, cost, gap = slot
    return (unit - offset) % gap < cost


def least_common_unit(one, other):
    """Return the least unit that both slots occupy, for two slots that collide."""
    unit = max(one[0], other[0])
    while not occupies(one, unit) or not occupies(other, unit):
        unit += 1
    return unit


def first_collision(slots):
    """Return the least unit that two slots occupy, or None if there is none."""
    check_slots(slots)
    rows = list(slots)
    units = []
    for one, other in combinations(rows, 2):
        if collide(one, other):
            units.append(least_common_unit(one, other))
    return min(units, default=None)


def slots_behind(pairs, placed):
    """Return slots for all pairs that begin with the placed ones and have the least offsets, or None."""
    if len(placed) == len(pairs):
        return placed
    cost, gap = pairs[len(placed)]
    for offset in range(gap):
        slot = (offset, cost, gap)
        if not any([collide(other, slot) for other in placed]):
            found = slots_behind(pairs, [*placed, slot])
            if found is not None:
                return found
    return None


def free_offsets(pairs):
    """Return the least tuple of offsets, each less than its gap, for which the slots do not collide, or None."""
    check_pairs(pairs)
    slots = slots_behind(pairs, [])
    return None if slots is None else tuple([offset for offset, _, _ in slots])
