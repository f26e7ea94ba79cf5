"""Long jobs that run without interruption on one machine, and the places at which a program of blocks is cut."""

from itertools import permutations

from eventcore.errors import BadBlocks
from eventcore.jobs import check_long_jobs
from eventcore.values import are_apart, are_integers, check_length, is_integer, is_tuple

MOST_BLOCKS = 12
MOST_BLOCK = 20
MOST_STRETCH = 100
MOST_OVERHEAD = 20


def starts_in_order(jobs, order):
    """Return the starts if the jobs run in the order, each as early as it can; None if one of them is late."""
    starts = [0] * len(jobs)
    time = 0
    for job in order:
        arrival, length, due = jobs[job]
        starts[job] = max(time, arrival)
        time = starts[job] + length
        if time > due:
            return None
    return tuple(starts)


def waits(jobs, order, starts):
    """Tell whether the machine is idle at some time although a job that has arrived has not begun."""
    time = 0
    for place, job in enumerate(order):
        if starts[job] > max(time, min([jobs[other][0] for other in order[place:]])):
            return True
        time = starts[job] + jobs[job][1]
    return False


def whole_starts(jobs):
    """Return start times at which every job can run without interruption, or None if there are none."""
    check_long_jobs(jobs)
    # Jobs that start later than they could in their order gain nothing, so each order is tried in one way only.
    for order in permutations(range(len(jobs))):
        starts = starts_in_order(jobs, order)
        if starts is not None:
            return starts
    return None


def shows_whole_starts(jobs, value):
    """Tell whether the value, which may be any value, is such a tuple of start times."""
    check_long_jobs(jobs)
    if not is_tuple(value, len(jobs), len(jobs)):
        return False
    spans = []
    for (arrival, length, due), start in zip(jobs, value):
        if not is_integer(start, arrival, due - length):
            return False
        spans.append((start, start + length))
    return are_apart(spans)


def needs_waiting(jobs):
    """Tell whether there are such start times, but with all of them the machine waits."""
    check_long_jobs(jobs)
    found = False
    for order in permutations(range(len(jobs))):
        starts = starts_in_order(jobs, order)
        if starts is not None:
            if not waits(jobs, order, starts):
                return False
            found = True
    return found


def check_blocks(blocks):
    """Raise BadBlocks unless the value is a program of blocks."""
    if not are_integers(blocks, MOST_BLOCKS, MOST_BLOCK):
        raise BadBlocks(f"not a tuple of 1 to {MOST_BLOCKS} integers from 1 to {MOST_BLOCK}")


def fewest_points(blocks, most, overhead):
    """Return as few points as possible that cut the blocks into stretches that are not too long, or None."""
    check_blocks(blocks)
    check_length(most, 1, MOST_STRETCH)
    check_length(overhead, 0, MOST_OVERHEAD)
    points = []
    room = most
    # Each stretch takes as many blocks as it can: a longer one never leaves more to the stretches behind it.
    for place, length in enumerate(blocks):
        if length > room:
            points.append(place)
            room = most - overhead
        if length > room:
            return None
        room -= length
    return tuple(points)
