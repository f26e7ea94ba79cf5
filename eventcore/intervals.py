"""Intervals of units: machines for all of them, the most crowded unit, and the most valuable ones for some machines."""

from itertools import combinations

from eventcore.errors import BadIntervals, BadWeights
from eventcore.values import check_machines, is_row, is_tuple

MOST_INTERVALS = 8
LAST_TIME = 100
MOST_WEIGHT = 100


def check_intervals(intervals):
    """Raise BadIntervals unless the value is intervals (begin, end)."""
    if not is_tuple(intervals, 1, MOST_INTERVALS):
        raise BadIntervals(None)
    for index, value in enumerate(intervals):
        if not is_row(value, ((0, LAST_TIME), (0, LAST_TIME))) or value[0] >= value[1]:
            raise BadIntervals(index)


def crowd_at(intervals, unit):
    """Return the number of the intervals that contain the unit."""
    return len([begin for begin, end in intervals if begin <= unit < end])


def interval_machines(intervals):
    """Return a machine for each interval, as few as possible, such that intervals with a common unit differ."""
    check_intervals(intervals)
    ends = {}
    machines = {}
    for index in sorted(range(len(intervals)), key=lambda one: intervals[one][0]):
        begin, end = intervals[index]
        free = [machine for machine, stop in ends.items() if stop <= begin]
        # A new machine is taken only where all others contain the unit at which this interval begins.
        machine = free[0] if free else len(ends)
        ends[machine] = end
        machines[index] = machine
    return tuple([machines[index] for index in range(len(intervals))])


def crowded_unit(intervals):
    """Return the least unit that as many intervals contain as any unit."""
    check_intervals(intervals)
    # The crowd grows only where an interval begins; of several greatest crowds max takes the first one.
    return max(sorted([begin for begin, _ in intervals]), key=lambda unit: crowd_at(intervals, unit))


def fit_on(intervals, machines):
    """Tell whether no unit is contained in more of the intervals than there are machines."""
    return all([crowd_at(intervals, begin) <= machines for begin, _ in intervals])


def best_intervals(intervals, weights, machines):
    """Return intervals with the greatest sum of weights that fit on the machines, by looking at all sets of them."""
    check_intervals(intervals)
    if not is_row(weights, ((0, MOST_WEIGHT),) * len(intervals)):
        raise BadWeights(f"not a tuple with an integer from 0 to {MOST_WEIGHT} for each interval")
    check_machines(machines)
    best = ()
    greatest = 0
    for many in range(1, len(intervals) + 1):
        for members in combinations(range(len(intervals)), many):
            total = sum([weights[index] for index in members])
            if total > greatest and fit_on([intervals[index] for index in members], machines):
                best = members
                greatest = total
    return best
