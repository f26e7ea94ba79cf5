"""Fair schedules: at each time every index has run as long as its part of the time says, to less than one unit."""

from eventcore.counting import common_multiple
from eventcore.errors import TooMany
from eventcore.slots import check_pairs
from eventcore.values import check_machines, is_ascending

MOST_CYCLE = 60


def cycle_length(pairs, machines):
    """Return the length of the cycle; raise the error of the first argument that is not allowed, or TooMany."""
    check_pairs(pairs)
    check_machines(machines)
    cycle = common_multiple([gap for _, gap in pairs])
    if cycle > MOST_CYCLE:
        raise TooMany(MOST_CYCLE)
    return cycle


def is_fair(pair, count, time):
    """Tell whether so many units before the time are fair for the pair."""
    cost, gap = pair
    return abs(count * gap - time * cost) < gap


def next_counts(pairs, machines, counts, time):
    """Return the fair counts of units before the time that may follow these counts for the time one unit earlier."""
    rows = [()]
    for pair, count in zip(pairs, counts):
        rows = [(*row, more) for row in rows for more in (count, count + 1) if is_fair(pair, more, time)]
    return [row for row in rows if sum(row) - sum(counts) <= machines]


def reached_counts(pairs, machines, cycle):
    """Return, for each time of the cycle, a dict from the fair counts that can be reached to those before them."""
    steps = [{(0,) * len(pairs): None}]
    for time in range(1, cycle + 1):
        reached = {}
        for counts in steps[time - 1]:
            for row in next_counts(pairs, machines, counts, time):
                reached[row] = counts
        steps.append(reached)
    return steps


def fair_schedule(pairs, machines):
    """Return a fair schedule for the pairs and the machines, or None if there is none."""
    cycle = cycle_length(pairs, machines)
    steps = reached_counts(pairs, machines, cycle)
    # At the end of the cycle only one count is fair for each index.
    counts = tuple([cycle // gap * cost for cost, gap in pairs])
    if counts not in steps[cycle]:
        return None
    units = []
    for time in range(cycle, 0, -1):
        before = steps[time][counts]
        units.append(tuple([index for index, count in enumerate(counts) if count > before[index]]))
        counts = before
    return tuple(reversed(units))


def shows_fair(pairs, machines, value):
    """Tell whether the value, which may be any value, is a fair schedule."""
    cycle = cycle_length(pairs, machines)
    if not isinstance(value, tuple) or len(value) != cycle:
        return False
    counts = [0] * len(pairs)
    for unit, row in enumerate(value):
        if not is_ascending(row, len(pairs)) or len(row) > machines:
            return False
        for index in row:
            counts[index] += 1
        if not all([is_fair(pair, count, unit + 1) for pair, count in zip(pairs, counts)]):
            return False
    return True
