"""The lengths up to which a processor stays busy if tasks arrive at all multiples of their gaps."""

from eventcore.counting import common_multiple, rounded_up
from eventcore.errors import TooMany
from eventcore.values import first_greatest

MOST_LENGTH = 5000
MOST_COMMON_GAP = 240


def common_gap(tasks):
    """Return the least common multiple of the gaps."""
    return common_multiple([gap for _, _, gap in tasks])


def bounded_common_gap(tasks):
    """Return the least common multiple of the gaps; raise TooMany if it is too great to look at all times below it."""
    common = common_gap(tasks)
    if common > MOST_COMMON_GAP:
        raise TooMany(MOST_COMMON_GAP)
    return common


def arrived_work(tasks, length):
    """Return the work of all jobs that arrive before the length."""
    return sum([cost * rounded_up(length, gap) for cost, _, gap in tasks])


def has_end(extra, tasks):
    """Tell whether the extra work and the work of the tasks are ever done."""
    common = common_gap(tasks)
    work = arrived_work(tasks, common)
    return work < common or (work == common and extra == 0)


def least_length(extra, tasks, most):
    """Return the least positive length that is not less than the extra work and the work that arrives before it.

    None stands for no such length, and most + 1 for one that is greater than most.
    """
    if not has_end(extra, tasks):
        return None
    length = 1
    # No length below the work that arrives before a shorter one can be the answer, so none is left out.
    while length <= most:
        work = extra + arrived_work(tasks, length)
        if work <= length:
            return length
        length = work
    return most + 1


def bounded_length(extra, tasks, most):
    """Return the least length as above or None; raise TooMany if it is greater than most."""
    length = least_length(extra, tasks, most)
    if length is not None and length > most:
        raise TooMany(most)
    return length


def worst_behind(extra, front, task):
    """Return (response, number) of the worst job of a task behind extra work and the tasks in front of it.

    None stands for no busy period; TooMany is raised for a busy period that is too long.
    """
    length = bounded_length(extra, [*front, task], MOST_LENGTH)
    if length is None:
        return None
    cost, _, gap = task
    times = []
    for number in range(rounded_up(length, gap)):
        # The job finishes at the least time that holds its own work, that before it and that in front of it.
        times.append(least_length(extra + (number + 1) * cost, front, MOST_LENGTH) - number * gap)
    return first_greatest(times)
