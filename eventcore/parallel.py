"""Several machines: lengths that are wrapped around them, long jobs that run on them, and crowds of such jobs."""

from eventcore.errors import BadLengths
from eventcore.jobs import check_long_jobs
from eventcore.values import are_apart, are_integers, check_machines, is_ascending, is_integer, is_number, is_tuple

MOST_LENGTHS = 8
MOST_LENGTH = 100


def check_lengths(lengths):
    """Raise BadLengths unless the value is a tuple of lengths."""
    if not are_integers(lengths, MOST_LENGTHS, MOST_LENGTH):
        raise BadLengths(f"not a tuple of 1 to {MOST_LENGTHS} integers from 1 to {MOST_LENGTH}")


def wrapped(lengths, machines):
    """Return pieces for the lengths with the least greatest stop."""
    check_lengths(lengths)
    check_machines(machines)
    stop = max(sum(lengths), max(lengths) * machines)
    pieces = []
    machine = 0
    time = 0
    # What does not fit before the stop goes on at time 0 of the next machine: no job is so long that it meets itself.
    for job, length in enumerate(lengths):
        left = length * machines
        while left > 0:
            part = min(left, stop - time)
            pieces.append((machine, time, time + part, job))
            left -= part
            time += part
            if time == stop:
                machine += 1
                time = 0
    return tuple(pieces)


def is_piece(value, many, machines):
    """Tell whether the value is a piece for so many jobs and machines."""
    if not is_tuple(value, 4, 4):
        return False
    machine, start, stop, job = value
    if not is_integer(machine, 0, machines - 1) or not is_integer(job, 0, many - 1):
        return False
    return is_number(start) and is_number(stop) and 0 <= start < stop


def shows_pieces(lengths, machines, value):
    """Tell whether the value, which may be any value, is pieces for the lengths."""
    check_lengths(lengths)
    check_machines(machines)
    if not isinstance(value, tuple):
        return False
    for piece in value:
        if not is_piece(piece, len(lengths), machines):
            return False
    if list(value) != sorted(value):
        return False
    for machine in range(machines):
        if not are_apart([(start, stop) for one, start, stop, _ in value if one == machine]):
            return False
    for job, length in enumerate(lengths):
        spans = [(start, stop) for _, start, stop, one in value if one == job]
        if not are_apart(spans) or sum([stop - start for start, stop in spans]) != length * machines:
            return False
    return True


def move_along(units, found, left, unit):
    """Let the job that found the unit run there, and in the unit that it leaves for it the job that found that one."""
    while unit is not None:
        job = found[unit]
        units[unit].append(job)
        unit = left[job]
        if unit is not None:
            units[unit].remove(job)


def place_unit(jobs, machines, units, job):
    """Let the job run in one more unit, with other jobs moved where needed, and return an empty list.

    If that cannot be, return the jobs that would have to give way: they fill all units that any of them may use.
    """
    left = {job: None}
    found = {}
    queue = [job]
    while queue:
        one = queue.pop(0)
        for unit in range(jobs[one][0], jobs[one][2]):
            if unit in found or one in units[unit]:
                continue
            found[unit] = one
            if len(units[unit]) < machines:
                move_along(units, found, left, unit)
                return []
            for other in units[unit]:
                if other not in left:
                    left[other] = unit
                    queue.append(other)
    return sorted(left)


def fill_units(jobs, machines):
    """Return (units, members): the jobs that run in each unit, and the list of a crowd, empty if there is none."""
    units = [[] for _ in range(max([due for _, _, due in jobs]))]
    for job, (_, length, _) in enumerate(jobs):
        for _ in range(length):
            members = place_unit(jobs, machines, units, job)
            if members:
                return units, members
    return units, []


def parallel_schedule(jobs, machines):
    """Return a parallel schedule, or None if there is none."""
    check_long_jobs(jobs)
    check_machines(machines)
    units, members = fill_units(jobs, machines)
    if members:
        return None
    while not units[-1]:
        units.pop()
    return tuple([tuple(sorted(row)) for row in units])


def crowd(jobs, machines):
    """Return a crowd, or None if there is a parallel schedule."""
    check_long_jobs(jobs)
    check_machines(machines)
    _, members = fill_units(jobs, machines)
    return tuple(members) if members else None


def shows_parallel(jobs, machines, value):
    """Tell whether the value, which may be any value, is a parallel schedule."""
    check_long_jobs(jobs)
    check_machines(machines)
    if not isinstance(value, tuple) or len(value) == 0 or value[-1] == ():
        return False
    left = [length for _, length, _ in jobs]
    for unit, row in enumerate(value):
        if not is_ascending(row, len(jobs)) or len(row) > machines:
            return False
        for job in row:
            if not is_integer(unit, jobs[job][0], jobs[job][2] - 1):
                return False
            left[job] -= 1
    return left == [0] * len(jobs)


def shows_crowd(jobs, machines, value):
    """Tell whether the value, which may be any value, is a crowd."""
    check_long_jobs(jobs)
    check_machines(machines)
    if not is_ascending(value, len(jobs)) or len(value) == 0:
        return False
    rows = [jobs[job] for job in value]
    room = 0
    for unit in range(max([due for _, _, due in rows])):
        room += min(machines, len([due for arrival, _, due in rows if arrival <= unit < due]))
    return sum([length for _, length, _ in rows]) > room
