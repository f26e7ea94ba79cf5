"""Prefixes of schedules: whether a job is late, or must be late however the prefix goes on."""

from eventcore.errors import BadPrefix
from eventcore.interrupted import least_full_window
from eventcore.schedules import check_schedule, finish_times, late_jobs, units_done
from eventcore.tasks import check_pattern, check_tasks


def unfinished_jobs(tasks, pattern, prefix):
    """Return the unfinished jobs as long jobs that arrive at the end of the prefix or later."""
    done = units_done(tasks, pattern, prefix)
    jobs = []
    for task, (cost, deadline, _) in enumerate(tasks):
        for number, arrival in enumerate(pattern[task]):
            left = min(cost, (number + 1) * cost - done[task])
            if left > 0:
                jobs.append((max(arrival, len(prefix)), left, arrival + deadline))
    return jobs


def prefix_doom(tasks, pattern, prefix):
    """Return the doom of the prefix or None, for arguments that have been checked."""
    late = late_jobs(tasks, pattern, prefix)
    if late:
        ends = finish_times(tasks, prefix)
        task, number = min(late, key=lambda job: ends[job[0]][job[1]])
        return ("late", task, number)
    # The jobs of one task are due in the order of their arrivals, so they can run in it.
    window = least_full_window(unfinished_jobs(tasks, pattern, prefix))
    return None if window is None else ("full", *window)


def doom(tasks, pattern, prefix):
    """Return None if all jobs can still finish by their due times, and otherwise what shows that they cannot."""
    check_tasks(tasks)
    check_pattern(tasks, pattern)
    if units_done(tasks, pattern, prefix) is None:
        raise BadPrefix("not a prefix of a schedule for the pattern")
    return prefix_doom(tasks, pattern, prefix)


def first_doom(tasks, pattern, schedule):
    """Return the least number of units of the schedule that are a prefix with a doom, or None if there is none."""
    check_schedule(tasks, pattern, schedule)
    if prefix_doom(tasks, pattern, schedule) is None:
        return None
    low = 0
    high = len(schedule)
    # A doom stays, so that the first one can be looked for from the middle.
    while low < high:
        middle = (low + high) // 2
        if prefix_doom(tasks, pattern, schedule[:middle]) is None:
            low = middle + 1
        else:
            high = middle
    return low
