"""Jobs of one or several machines, and links between them: the values that they are, and orders that keep links."""

from eventcore.errors import BadJobs, BadLinks
from eventcore.values import is_row, is_tuple

MOST_JOB_LENGTH = 20
LAST_TIME = 100
MOST_PAIR_JOBS = 8
MOST_LONG_JOBS = 7
MOST_LINKS = 12


def check_rows(jobs, most, ranges):
    """Raise BadJobs unless the value is a tuple of at least one and at most so many rows of these ranges."""
    if not is_tuple(jobs, 1, most):
        raise BadJobs(None)
    for index, value in enumerate(jobs):
        if not is_row(value, ranges):
            raise BadJobs(index)


def check_pair_jobs(jobs):
    """Raise BadJobs unless the value is a tuple of equal jobs (arrival, due) or of unit jobs (due, weight)."""
    check_rows(jobs, MOST_PAIR_JOBS, ((0, LAST_TIME), (0, LAST_TIME)))


def check_long_jobs(jobs):
    """Raise BadJobs unless the value is a tuple of long jobs (arrival, length, due)."""
    check_rows(jobs, MOST_LONG_JOBS, ((0, LAST_TIME), (1, MOST_JOB_LENGTH), (0, LAST_TIME)))


def linked_order(dues, links):
    """Return an order of the jobs with these due times that keeps the links; with a ring, some jobs are left out.

    It is built from the back: of the jobs that may stand there, the one with the greatest due time does.
    """
    left = list(range(len(dues)))
    order = []
    while left:
        held = [before for before, after in links if after in left]
        last = max([job for job in left if job not in held], key=lambda one: dues[one], default=None)
        if last is None:
            break
        order = [last, *order]
        left.remove(last)
    return tuple(order)


def check_links(links, many):
    """Raise BadLinks unless the value is links for so many jobs."""
    if not is_tuple(links, 0, MOST_LINKS):
        raise BadLinks(None)
    for index, value in enumerate(links):
        if not is_row(value, ((0, many - 1), (0, many - 1))) or value[0] == value[1]:
            raise BadLinks(index)
    if len(linked_order([0] * many, links)) < many:
        raise BadLinks(None)
