"""Jobs that run without interruption: two machines in a row, rows of jobs, list schedules, and even partitions."""

from eventcore.counting import common_multiple
from eventcore.errors import BadRows
from eventcore.jobs import check_links, check_pair_jobs
from eventcore.parallel import check_lengths
from eventcore.slots import check_pairs
from eventcore.values import check_machines, check_order, is_order, is_tuple


def flow_end(jobs, order):
    """Return when the second machine has finished the last job, if both machines take the jobs in this order."""
    check_pair_jobs(jobs)
    check_order(order, len(jobs))
    first_end = 0
    second_end = 0
    for job in order:
        first, second = jobs[job]
        first_end += first
        second_end = max(first_end, second_end) + second
    return second_end


def flow_place(job):
    """Return a key by which jobs come in an order with the least end.

    Jobs that are shorter on the first machine soon give the second one work, the shortest first; those that are
    shorter on the second one leave it little work at the end, the shortest last.
    """
    first, second = job
    return (0, first) if first <= second else (1, -second)


def flow_order(jobs):
    """Return an order with the least such time."""
    check_pair_jobs(jobs)
    return tuple(sorted(range(len(jobs)), key=lambda one: flow_place(jobs[one])))


def are_rows(value, many, machines):
    """Tell whether the value is rows: a tuple of jobs for each machine, every job in one of them once."""
    if not is_tuple(value, machines, machines):
        return False
    members = ()
    for row in value:
        if not isinstance(row, tuple):
            return False
        members = members + row
    return is_order(members, many)


def sum_of_ends(lengths, machines, rows):
    """Return the sum of the finish times of all jobs, if those of each row run one after the other."""
    check_lengths(lengths)
    check_machines(machines)
    if not are_rows(rows, len(lengths), machines):
        raise BadRows("not a tuple of jobs for each machine with every job once")
    total = 0
    for row in rows:
        end = 0
        for job in row:
            end += lengths[job]
            total += end
    return total


def shortest_first(lengths, machines):
    """Return rows with the least such sum."""
    check_lengths(lengths)
    check_machines(machines)
    rows = [()] * machines
    # A length counts once for each job from its own to the end of its row, so the longest jobs must stand last.
    for place, job in enumerate(sorted(range(len(lengths)), key=lambda one: lengths[one])):
        rows[place % machines] = (*rows[place % machines], job)
    return tuple(rows)


def begin_jobs(lengths, links, order, machines, ends, time):
    """Let the jobs that can begin at the time do so: `ends` has the end of each job that has begun."""
    for job in order:
        running = [end for end in ends.values() if end > time]
        waiting = [before for before, after in links if after == job and ends.get(before, time + 1) > time]
        if job not in ends and not waiting and len(running) < machines:
            ends[job] = time + lengths[job]


def list_end(lengths, links, order, machines):
    """Return the time at which the last job of the list schedule is finished."""
    check_lengths(lengths)
    check_links(links, len(lengths))
    check_order(order, len(lengths))
    check_machines(machines)
    ends = {}
    time = 0
    begin_jobs(lengths, links, order, machines, ends, time)
    while len(ends) < len(lengths):
        # Nothing can begin before the next job ends.
        time = min([end for end in ends.values() if end > time])
        begin_jobs(lengths, links, order, machines, ends, time)
    return max(list(ends.values()))


def most_even(sizes, machines):
    """Return (load, places): a machine for each size such that the greatest sum on a machine, the load, is least."""
    reached = {(0,) * machines: ()}
    for size in sizes:
        further = {}
        for loads, places in reached.items():
            for machine, load in enumerate(loads):
                # Of machines with one load it does not matter which one is taken.
                if load not in loads[:machine]:
                    further[loads[:machine] + (load + size,) + loads[machine + 1:]] = (*places, machine)
        reached = further
    best = min(list(reached), key=max)
    return max(best), reached[best]


def least_end(lengths, machines):
    """Return the least greatest row sum of all rows."""
    check_lengths(lengths)
    check_machines(machines)
    load, _ = most_even(lengths, machines)
    return load


def partition(pairs, machines):
    """Return a machine for each pair such that the rates on a machine sum to at most 1, or None if there is none."""
    check_pairs(pairs)
    check_machines(machines)
    whole = common_multiple([gap for _, gap in pairs])
    load, places = most_even([cost * (whole // gap) for cost, gap in pairs], machines)
    return places if load <= whole else None
