"""Long jobs that may be interrupted on one machine: schedules by units, full windows, and the least lateness."""

from eventcore.jobs import check_long_jobs
from eventcore.values import is_integer


def earliest_due_units(jobs):
    """Return the schedule in which, of the jobs that have arrived, the one with the smallest due time runs."""
    left = [length for _, length, _ in jobs]
    units = []
    while max(left) > 0:
        ready = [job for job, (arrival, _, _) in enumerate(jobs) if arrival <= len(units) and left[job] > 0]
        job = min(ready, key=lambda one: jobs[one][2], default=None)
        units.append(job)
        if job is not None:
            left[job] -= 1
    return tuple(units)


def greatest_lateness(jobs, units):
    """Return the greatest finish time less due time of the jobs in the schedule."""
    ends = {}
    for unit, job in enumerate(units):
        ends[job] = unit + 1
    return max([ends[job] - due for job, (_, _, due) in enumerate(jobs)])


def schedule_in_time(jobs):
    """Return a schedule in which no job is late, or None; the numbers of the jobs need not be in any range."""
    # Of all schedules the one by due times has the smallest greatest lateness.
    units = earliest_due_units(jobs)
    return units if greatest_lateness(jobs, units) <= 0 else None


def least_full_window(jobs):
    """Return the least full window (first, last), or None; the numbers of the jobs need not be in any range."""
    for first in sorted([arrival for arrival, _, _ in jobs]):
        for last in sorted([due for _, _, due in jobs]):
            work = sum([length for arrival, length, due in jobs if arrival >= first and due <= last])
            # A window without a job has no work; so it does not count, however negative its size.
            if work > max(0, last - first):
                return (first, last)
    return None


def unit_schedule(jobs):
    """Return a tuple with the job that runs in each unit, or None, such that no job is late; None if there is none."""
    check_long_jobs(jobs)
    return schedule_in_time(jobs)


def shows_units(jobs, value):
    """Tell whether the value, which may be any value, is such a tuple."""
    check_long_jobs(jobs)
    if not isinstance(value, tuple) or len(value) == 0 or value[-1] is None:
        return False
    left = [length for _, length, _ in jobs]
    for unit, job in enumerate(value):
        if job is None:
            continue
        if not is_integer(job, 0, len(jobs) - 1) or not is_integer(unit, jobs[job][0], jobs[job][2] - 1):
            return False
        left[job] -= 1
    return left == [0] * len(jobs)


def full_window(jobs):
    """Return the least window of an arrival and a due time with more work than units, or None if there is none."""
    check_long_jobs(jobs)
    return least_full_window(jobs)


def least_lateness(jobs):
    """Return the least integer which, added to all due times, leaves a schedule."""
    check_long_jobs(jobs)
    return greatest_lateness(jobs, earliest_due_units(jobs))
