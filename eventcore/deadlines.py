"""Earliest deadlines: the demand of lengths, worst response times, least deadlines, and the first missed job."""

from eventcore.busy import MOST_LENGTH, bounded_common_gap, bounded_length, has_end, least_length
from eventcore.counting import rounded_up
from eventcore.errors import BadOffsets, TooMany
from eventcore.tasks import MOST_DEADLINE, check_tasks, with_task
from eventcore.values import check_length, check_task, first_greatest, is_integer, is_tuple

MOST_BUSY = 300
LAST_OFFSET = 60


def demand_at(tasks, length):
    """Return the work of all jobs due by the length, if all tasks arrive at all multiples of their gaps."""
    total = 0
    for cost, deadline, gap in tasks:
        if deadline <= length:
            total += cost * (1 + (length - deadline) // gap)
    return total


def demand(tasks, length):
    """Return the demand of the length."""
    check_tasks(tasks)
    check_length(length, 0, MOST_LENGTH)
    return demand_at(tasks, length)


def sure_length(tasks):
    """Return a length that is not less than the least overfull one, if there is any; None if none is in reach."""
    length = least_length(0, tasks, MOST_LENGTH)
    return None if length is None or length > MOST_LENGTH else length


def first_overfull(tasks, most):
    """Return the least overfull length that is not greater than most, or None."""
    for length in range(1, most + 1):
        if demand_at(tasks, length) > length:
            return length
    return None


def least_overfull(tasks):
    """Return the least overfull length or None, for a task set that has been checked; it may raise TooMany."""
    sure = sure_length(tasks)
    if sure is not None:
        return first_overfull(tasks, sure)
    found = first_overfull(tasks, MOST_LENGTH)
    if found is None:
        raise TooMany(MOST_LENGTH)
    return found


def overfull_length(tasks):
    """Return the least overfull length, or None if there is none."""
    check_tasks(tasks)
    return least_overfull(tasks)


def jobs_ahead(tasks, task, due):
    """Return (cost, gap, number) for each other task: so many of its jobs come ahead of the task's job with this due.

    The other tasks arrive at all multiples of their gaps.
    """
    rows = []
    for other, (cost, deadline, gap) in enumerate(tasks):
        if other != task:
            # Of two jobs with one due time, that of the smaller task comes first.
            latest = due if other < task else due - 1
            rows.append((cost, gap, max(0, 1 + (latest - deadline) // gap)))
    return rows


def finish_at(tasks, task, offset):
    """Return when the task's job that arrives at the offset finishes, if the processor is busy until then.

    Nothing idle is counted, so the answer may be too early; it is exact for the offsets of the worst response.
    """
    cost, deadline, gap = tasks[task]
    own = cost * (1 + offset // gap)
    rows = jobs_ahead(tasks, task, offset + deadline)
    finish = 0
    work = own
    while work > finish:
        finish = work
        work = own + sum([some * min(number, rounded_up(finish, each)) for some, each, number in rows])
    return finish


def worst_by_deadline(tasks, task):
    """Return (response, offset) of the worst job of the task under earliest deadlines, or None if there is no bound."""
    check_tasks(tasks)
    check_task(task, len(tasks))
    length = bounded_length(0, tasks, MOST_BUSY)
    if length is None:
        return None
    return first_greatest([finish_at(tasks, task, offset) - offset for offset in range(length)])


def least_deadline(tasks, task):
    """Return the least deadline of the task with which no length is overfull, or None if there is none."""
    check_tasks(tasks)
    check_task(task, len(tasks))
    # The bound does not depend on the deadlines, so it is one for all that are tried.
    length = bounded_length(0, tasks, MOST_LENGTH)
    if length is None:
        return None
    cost, _, gap = tasks[task]
    for deadline in range(1, MOST_DEADLINE + 1):
        if first_overfull(with_task(tasks, task, (cost, deadline, gap)), length) is None:
            return deadline
    return None


def check_offsets(tasks, offsets):
    """Raise BadOffsets unless the value is a tuple of offsets, one for each task."""
    if not is_tuple(offsets, len(tasks), len(tasks)):
        raise BadOffsets("not a tuple with one offset for each task")
    for offset in offsets:
        if not is_integer(offset, 0, LAST_OFFSET):
            raise BadOffsets(f"not an integer from 0 to {LAST_OFFSET}")


def first_dues(tasks, offsets, done):
    """Return the due times of the first unfinished jobs of all tasks; `done` tells how many units each one has run."""
    rows = []
    for task, (cost, deadline, gap) in enumerate(tasks):
        rows.append(offsets[task] + done[task] // cost * gap + deadline)
    return rows


def late_job(tasks, dues, done, time):
    """Return the job (task, number) that is unfinished at its due time, if this time is that, or None."""
    for task, due in enumerate(dues):
        if due <= time:
            return (task, done[task] // tasks[task][0])
    return None


def run_unit(tasks, dues, done, time):
    """Let the job with the smallest due time of those that have arrived run for one unit."""
    ready = [task for task, due in enumerate(dues) if due - tasks[task][1] <= time]
    if ready:
        # Of several smallest due times min takes the first one, and so the smallest task.
        done[min(ready, key=lambda one: dues[one])] += 1


def first_miss(tasks, offsets):
    """Return the missed job (task, number) with the smallest due time, if all tasks arrive without end, or None."""
    check_tasks(tasks)
    check_offsets(tasks, offsets)
    common = bounded_common_gap(tasks)
    # Work that keeps pace with time misses before this time or never; other work misses at some time.
    last = max(offsets) + 2 * common
    endless = not has_end(0, tasks)
    done = [0] * len(tasks)
    time = 0
    while endless or time <= last:
        dues = first_dues(tasks, offsets, done)
        late = late_job(tasks, dues, done, time)
        if late is not None:
            return late
        run_unit(tasks, dues, done, time)
        time += 1
    return None
