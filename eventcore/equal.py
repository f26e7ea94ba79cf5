"""Equal jobs of one machine: starts for them, and refusals that show that there are none.

The closed integers of a refusal are kept as `closed`, a dict that has each of them as a key.
"""

from eventcore.jobs import MOST_JOB_LENGTH, check_pair_jobs
from eventcore.values import are_apart, check_length, is_integer, is_number, is_tuple


def check_equal_jobs(jobs, length):
    """Raise the error of the first of the two arguments that is not allowed."""
    check_pair_jobs(jobs)
    check_length(length, 1, MOST_JOB_LENGTH)


def jobs_inside(jobs, first, last):
    """Return the number of jobs that arrive at the first time or later and are due at the last time or earlier."""
    return len([arrival for arrival, due in jobs if arrival >= first and due <= last])


def latest_open(time, closed):
    """Return the greatest integer that is at most the time and not closed."""
    while time in closed:
        time -= 1
    return time


def last_taken(jobs, length, window, closed):
    """Return the last one of the integers that are taken for the jobs of the window."""
    first, last = window
    taken = latest_open(last - length, closed)
    for _ in range(jobs_inside(jobs, first, last) - 1):
        taken = latest_open(taken - length, closed)
    return taken


def work_through(jobs, length, window, closed):
    """Tell whether the refusal is complete with this window; otherwise close what the window closes."""
    taken = last_taken(jobs, length, window, closed)
    if taken < window[0]:
        return True
    for time in range(taken - length + 1, window[0]):
        closed[time] = True
    return False


def worked_windows(jobs, length):
    """Return (windows, closed, complete) for the windows of an arrival and a due time, the latest arrivals first.

    Windows that close nothing are left out, and all behind the one that completes a refusal.
    """
    windows = []
    closed = {}
    for first in sorted([arrival for arrival, _ in jobs], reverse=True):
        for last in sorted([due for _, due in jobs]):
            if jobs_inside(jobs, first, last) > 0:
                before = len(closed)
                complete = work_through(jobs, length, (first, last), closed)
                if complete or len(closed) > before:
                    windows.append((first, last))
                if complete:
                    return windows, closed, True
    return windows, closed, False


def earliest_starts(jobs, length, closed):
    """Return the starts if at each open time at which the machine is free the job with the smallest due time starts."""
    starts = {}
    time = 0
    while len(starts) < len(jobs):
        ready = [job for job, (arrival, _) in enumerate(jobs) if arrival <= time and job not in starts]
        if ready and time not in closed:
            starts[min(ready, key=lambda one: jobs[one][1])] = time
            time += length
        else:
            time += 1
    return tuple([starts[job] for job in range(len(jobs))])


def equal_starts(jobs, length):
    """Return starts for the equal jobs, or None if there are none."""
    check_equal_jobs(jobs, length)
    _, closed, complete = worked_windows(jobs, length)
    # If no window completes a refusal, no job is late with these starts: that is why the times are closed.
    return None if complete else earliest_starts(jobs, length, closed)


def refusal(jobs, length):
    """Return a refusal, or None if there are starts."""
    check_equal_jobs(jobs, length)
    windows, _, complete = worked_windows(jobs, length)
    return tuple(windows) if complete else None


def shows_starts(jobs, length, value):
    """Tell whether the value, which may be any value, is starts for the equal jobs."""
    check_equal_jobs(jobs, length)
    if not is_tuple(value, len(jobs), len(jobs)):
        return False
    for (arrival, due), start in zip(jobs, value):
        if not is_integer(start, arrival, due - length):
            return False
    return are_apart([(start, start + length) for start in value])


def is_window(jobs, value):
    """Tell whether the value is a pair of integers with a job inside."""
    if not is_tuple(value, 2, 2) or not is_number(value[0]) or not is_number(value[1]):
        return False
    return jobs_inside(jobs, value[0], value[1]) > 0


def shows_refusal(jobs, length, value):
    """Tell whether the value, which may be any value, is a refusal."""
    check_equal_jobs(jobs, length)
    if not isinstance(value, tuple):
        return False
    closed = {}
    for place, window in enumerate(value):
        if not is_window(jobs, window):
            return False
        if work_through(jobs, length, window, closed):
            return place == len(value) - 1
    return False
