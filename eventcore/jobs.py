"""Jobs of one or several machines: equal, long and unit jobs, and the values that they are."""

from eventcore.errors import BadJobs
from eventcore.values import is_row, is_tuple

MOST_JOB_LENGTH = 20
LAST_TIME = 100
MOST_PAIR_JOBS = 8
MOST_LONG_JOBS = 7


def check_rows(jobs, most, ranges):
    """Raise BadJobs unless the value is a tuple of at least one and at most so many rows of these ranges."""
    if not is_tuple(jobs, 1, most):
        raise BadJobs(None)
    for index, value in enumerate(jobs):
        if not is_row(value, ranges):
            raise BadJobs(index)


def check_pair_jobs(jobs):
    """Raise BadJobs unless the value is a tuple of equal jobs (arrival, due) or of unit jobs (due, weight)."""
    check_rows(jobs, MOST_PAIR_JOBS, ((0, LAST_TIME), (0, LAST_TIME)))


def check_long_jobs(jobs):
    """Raise BadJobs unless the value is a tuple of long jobs (arrival, length, due)."""
    check_rows(jobs, MOST_LONG_JOBS, ((0, LAST_TIME), (1, MOST_JOB_LENGTH), (0, LAST_TIME)))
