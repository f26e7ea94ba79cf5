"""Jobs that need several machines in any order: steps that work them off in the least time."""

from eventcore.errors import BadNeeds
from eventcore.values import is_integer, is_tuple

MOST_ROWS = 5
MOST_COLUMNS = 4
MOST_NEED = 20


def check_needs(needs):
    """Raise BadNeeds unless the value is needs."""
    if not is_tuple(needs, 1, MOST_ROWS):
        raise BadNeeds(None)
    for index, row in enumerate(needs):
        if not is_tuple(row, 1, MOST_COLUMNS) or len(row) != len(needs[0]):
            raise BadNeeds(index)
        for need in row:
            if not is_integer(need, 0, MOST_NEED):
                raise BadNeeds(index)


def column_sum(rows, machine):
    """Return the sum of the needs on the machine."""
    return sum([row[machine] for row in rows])


def greatest_sum(rows):
    """Return the greatest sum of a row or a column."""
    columns = [column_sum(rows, machine) for machine in range(len(rows[0]))]
    return max([*columns, *[sum(row) for row in rows]])


def covers(rows, total, picked):
    """Tell whether each job whose needs sum to the total is picked for a machine."""
    return all([job in picked or sum(row) < total for job, row in enumerate(rows)])


def step_jobs(rows, total, picked):
    """Return the jobs of a step that begins with the picked ones, or None.

    Each row and each column that sums to the total is worked on, as all its needs would not be done in time otherwise.
    """
    machine = len(picked)
    if machine == len(rows[0]):
        return picked if covers(rows, total, picked) else None
    choices = [job for job, row in enumerate(rows) if row[machine] > 0 and job not in picked]
    if column_sum(rows, machine) < total:
        choices.append(None)
    for job in choices:
        found = step_jobs(rows, total, (*picked, job))
        if found is not None:
            return found
    return None


def step_duration(rows, total, jobs):
    """Return for how long the step can last: until a need is done, or a line left out must be worked on."""
    limits = [total - sum(row) for job, row in enumerate(rows) if job not in jobs]
    for machine, job in enumerate(jobs):
        limits.append(total - column_sum(rows, machine) if job is None else rows[job][machine])
    return min(limits)


def open_steps(needs):
    """Return steps for the needs."""
    check_needs(needs)
    rows = [list(row) for row in needs]
    total = greatest_sum(rows)
    steps = []
    while total > 0:
        jobs = step_jobs(rows, total, ())
        duration = step_duration(rows, total, jobs)
        steps.append((duration, jobs))
        total -= duration
        for machine, job in enumerate(jobs):
            if job is not None:
                rows[job][machine] -= duration
    return tuple(steps)


def is_step(value, many, machines):
    """Tell whether the value is a step (duration, jobs) for so many jobs and machines."""
    if not is_tuple(value, 2, 2) or not is_tuple(value[1], machines, machines):
        return False
    for job in value[1]:
        if job is not None and (not is_integer(job, 0, many - 1) or value[1].count(job) > 1):
            return False
    return True


def shows_steps(needs, value):
    """Tell whether the value, which may be any value, is steps for the needs."""
    check_needs(needs)
    if not isinstance(value, tuple):
        return False
    rows = [list(row) for row in needs]
    left = greatest_sum(rows)
    for step in value:
        if not is_step(step, len(rows), len(rows[0])) or not is_integer(step[0], 1, left):
            return False
        duration, jobs = step
        left -= duration
        for machine, job in enumerate(jobs):
            if job is not None:
                rows[job][machine] -= duration
    return left == 0 and rows == [[0] * len(row) for row in needs]
