"""Rings in which every index comes back in time, and frame sizes for task sets.

A state of a ring says, for each index, within how many entries from here on it must occur.
"""

from math import gcd

from eventcore.busy import bounded_common_gap
from eventcore.errors import BadDistances
from eventcore.tasks import check_tasks
from eventcore.values import are_integers, is_integer

MOST_DISTANCES = 4
MOST_DISTANCE = 8


def check_distances(distances):
    """Raise BadDistances unless the value is distances."""
    if not are_integers(distances, MOST_DISTANCES, MOST_DISTANCE):
        raise BadDistances(f"not a tuple of 1 to {MOST_DISTANCES} integers from 1 to {MOST_DISTANCE}")


def next_state(distances, state, entry):
    """Return the state behind an entry, or None if some other index would come too late."""
    row = [left - 1 for left in state]
    row[entry] = distances[entry]
    return tuple(row) if min(row) > 0 else None


def next_entry(distances, state, dead):
    """Return an entry and the state behind it, one that is not known to be dead; None for both if there is none."""
    for entry in range(len(distances)):
        after = next_state(distances, state, entry)
        if after is not None and after not in dead:
            return entry, after
    return None, None


def ring_for(distances):
    """Return a ring for the distances, or None if there is none."""
    check_distances(distances)
    # An index that has just occurred has most time left, so that nothing begins better than this state.
    path = [distances]
    entries = []
    dead = {}
    while path:
        entry, after = next_entry(distances, path[-1], dead)
        if after is None:
            # From a dead state every way ends.
            dead[path.pop()] = True
            entries = entries[:-1]
        elif after in path:
            return tuple([*entries[path.index(after):], entry])
        else:
            path.append(after)
            entries.append(entry)
    return None


def comes_in_time(value, index, distance):
    """Tell whether the index occurs in each row of so many entries of the value, which is repeated."""
    if index not in value:
        return False
    waited = 0
    # Twice round is enough to see the way over the end of the value.
    for entry in value + value:
        waited = 0 if entry == index else waited + 1
        if waited == distance:
            return False
    return True


def shows_ring(distances, value):
    """Tell whether the value, which may be any value, is a ring for the distances."""
    check_distances(distances)
    if not isinstance(value, tuple):
        return False
    for entry in value:
        if entry is not None and not is_integer(entry, 0, len(distances) - 1):
            return False
    return all([comes_in_time(value, index, distance) for index, distance in enumerate(distances)])


def fits_frame(task, size):
    """Tell whether a whole frame of the size lies between each arrival and its due time."""
    _, deadline, gap = task
    # At worst the next frame begins the size less this divisor behind an arrival.
    return 2 * size - gcd(size, gap) <= deadline


def frame_sizes(tasks):
    """Return the ascending tuple of the frame sizes."""
    check_tasks(tasks)
    common = bounded_common_gap(tasks)
    sizes = [size for size in range(1, common + 1) if common % size == 0]
    return tuple([size for size in sizes if all([fits_frame(task, size) for task in tasks])])
