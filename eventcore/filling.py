"""Traces with units that nobody noted: what may have stood there; and the schedule that is nearest to a row.

What has happened before a unit is kept as `done`, as in simulation.py, but as a tuple.
"""

from eventcore.errors import BadLength, BadTrace
from eventcore.simulation import has_job, work_of
from eventcore.tasks import check_pattern, check_tasks
from eventcore.values import is_integer, is_tuple

MOST_ENTRIES = 60
MOST_UNKNOWN = 10
# More than all changes of a row together.
FORBIDDEN = 1000


def check_trace(tasks, trace, most):
    """Raise BadTrace unless the value is a tuple of tasks, None and at most so many "?"."""
    if not is_tuple(trace, 1, MOST_ENTRIES):
        raise BadTrace(None)
    unknown = 0
    for index, entry in enumerate(trace):
        if entry == "?":
            unknown += 1
            if unknown > most:
                raise BadTrace(index)
        elif entry is not None and not is_integer(entry, 0, len(tasks) - 1):
            raise BadTrace(index)


def entries_at(tasks, trace, unit):
    """Return the entries that may stand in the unit: None is the last entry of no schedule."""
    entries = list(range(len(tasks))) + [None] if trace[unit] == "?" else [trace[unit]]
    return [entry for entry in entries if entry is not None or unit < len(trace) - 1]


def done_after(tasks, pattern, done, unit, entry):
    """Return what is done behind a unit with the entry, or None if no job of this task is there."""
    if entry is None:
        return done
    if not has_job(tasks, pattern, done, entry, unit):
        return None
    return done[:entry] + (done[entry] + 1,) + done[entry + 1:]


def counted_ways(tasks, pattern, trace):
    """Return, for each time, a dict from what may be done before it to the number of ways to do it."""
    times = [{(0,) * len(tasks): 1}]
    for unit in range(len(trace)):
        reached = {}
        for done, ways in times[unit].items():
            for entry in entries_at(tasks, trace, unit):
                after = done_after(tasks, pattern, done, unit, entry)
                if after is not None:
                    reached[after] = reached.get(after, 0) + ways
        times.append(reached)
    return times


def check_traced(tasks, pattern, trace):
    """Raise the error of the first of the three arguments that is not allowed."""
    check_tasks(tasks)
    check_pattern(tasks, pattern)
    check_trace(tasks, trace, MOST_UNKNOWN)


def fillings(tasks, pattern, trace):
    """Return the number of fillings of the trace."""
    check_traced(tasks, pattern, trace)
    return counted_ways(tasks, pattern, trace)[-1].get(tuple(work_of(tasks, pattern)), 0)


def possible_entries(tasks, pattern, trace):
    """Return, for each unit, the tuple of the entries that stand there in some filling; None without a filling."""
    check_traced(tasks, pattern, trace)
    times = counted_ways(tasks, pattern, trace)
    wanted = {tuple(work_of(tasks, pattern)): True}
    rows = []
    for unit in reversed(range(len(trace))):
        found = []
        before = {}
        for entry in entries_at(tasks, trace, unit):
            for done in times[unit]:
                if done_after(tasks, pattern, done, unit, entry) in wanted:
                    before[done] = True
                    if entry not in found:
                        found.append(entry)
        rows.append(tuple(found))
        wanted = before
    return tuple(reversed(rows)) if wanted else None


def joined(tasks, one, other):
    """Return ("trace", trace) with what either trace has noted, or ("conflict", unit) with the first contradiction."""
    check_tasks(tasks)
    check_trace(tasks, one, MOST_UNKNOWN)
    check_trace(tasks, other, MOST_UNKNOWN)
    if len(one) != len(other):
        raise BadLength("traces of unlike lengths")
    entries = []
    for unit, (entry, noted) in enumerate(zip(one, other)):
        if entry != noted and "?" not in (entry, noted):
            return ("conflict", unit)
        entries.append(noted if entry == "?" else entry)
    return ("trace", tuple(entries))


def needed_units(tasks, pattern, length):
    """Return (task, arrival) for each unit that a job needs, and (None, 0) for each idle unit of so many in all."""
    rows = []
    for task, arrivals in enumerate(pattern):
        for arrival in arrivals:
            rows.extend([(task, arrival)] * tasks[task][0])
    return rows + [(None, 0)] * (length - len(rows))


def change_costs(row, need):
    """Return, for each unit of the row, what it costs to put the needed or idle unit there."""
    task, arrival = need
    costs = []
    for unit, entry in enumerate(row):
        # None is the last entry of no schedule.
        possible = unit >= arrival and (task is not None or unit < len(row) - 1)
        costs.append(int(entry != task) if possible else FORBIDDEN)
    return costs


def cheapest_sources(costs, places, need):
    """Return, for each unit, from where its new need comes in the cheapest chain of moves that ends there.

    `costs` has the costs of each need, `places` the need that stands in each unit or None. A chain begins with the
    need, for which the source is None; each need in it takes the unit of the next one.
    """
    sums = list(costs[need])
    sources = [None] * len(places)
    better = True
    while better:
        better = False
        for unit, other in enumerate(places):
            if other is None:
                continue
            for further, cost in enumerate(costs[other]):
                total = sums[unit] - costs[other][unit] + cost
                if total < sums[further]:
                    sums[further] = total
                    sources[further] = unit
                    better = True
    return sources


def cheapest_places(costs):
    """Return the need that stands in each unit if the costs of all together are least."""
    places = [None] * len(costs)
    for need in range(len(costs)):
        sources = cheapest_sources(costs, places, need)
        # All units are taken in the end, whichever free one a chain ends in.
        unit = places.index(None)
        while sources[unit] is not None:
            places[unit] = places[sources[unit]]
            unit = sources[unit]
        places[unit] = need
    return places


def nearest_schedule(tasks, pattern, row):
    """Return (changes, schedule) with a schedule that differs from the row in as few units as possible, or None."""
    check_tasks(tasks)
    check_pattern(tasks, pattern)
    check_trace(tasks, row, 0)
    needs = needed_units(tasks, pattern, len(row))
    if len(needs) > len(row):
        return None
    costs = [change_costs(row, need) for need in needs]
    places = cheapest_places(costs)
    changes = sum([costs[need][unit] for unit, need in enumerate(places)])
    # The needs of one task differ only in their arrivals, so that they can stand in the order of its jobs.
    return None if changes >= FORBIDDEN else (changes, tuple([needs[need][0] for need in places]))
