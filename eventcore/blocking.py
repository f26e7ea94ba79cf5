"""How tasks of lower priority keep jobs with locks waiting: in one pattern, and at worst over all of them."""

from eventcore.busy import worst_behind
from eventcore.locks import check_locked, check_locked_run, lock_ceilings, locked_run, plain_tasks
from eventcore.simulation import has_job
from eventcore.values import check_task


def running_tasks(tasks, pattern, protocol):
    """Return, for each task and each of its jobs, the list of the tasks that run in the units that block the job."""
    check_locked_run(tasks, pattern, protocol)
    schedule, _ = locked_run(tasks, pattern, protocol)
    rows = [[[] for _ in arrivals] for arrivals in pattern]
    done = [0] * len(tasks)
    for unit, running in enumerate(schedule):
        if running is None:
            continue
        for task in range(running):
            if has_job(tasks, pattern, done, task, unit):
                rows[task][done[task] // tasks[task][0]].append(running)
        done[running] += 1
    return rows


def blocked_units(tasks, pattern, protocol):
    """Return the tuple, for each task, of the tuple of the numbers of units that block its jobs."""
    rows = running_tasks(tasks, pattern, protocol)
    return tuple([tuple([len(units) for units in row]) for row in rows])


def blockers(tasks, pattern, protocol):
    """Return the same with the ascending tuples of the tasks that run in these units."""
    rows = running_tasks(tasks, pattern, protocol)
    return tuple([tuple([tuple(sorted(set(units))) for units in row]) for row in rows])


def most_blocked(tasks, task):
    """Return the worst blocking of the task, for arguments that have been checked."""
    tops = lock_ceilings(tasks)
    lengths = [1]
    for _, _, sections in tasks[task + 1:]:
        for _, length, lock in sections:
            if tops[lock] <= task:
                lengths.append(length)
    return max(lengths) - 1


def worst_blocking(tasks, task):
    """Return how many units block a job of the task at most under "ceiling" and "stack"."""
    check_locked(tasks)
    check_task(task, len(tasks))
    return most_blocked(tasks, task)


def locked_response_bound(tasks, task):
    """Return a number of units that no response time of a job of the task exceeds under "stack", or None."""
    check_locked(tasks)
    check_task(task, len(tasks))
    rows = plain_tasks(tasks)
    worst = worst_behind(most_blocked(tasks, task), rows[:task], rows[task])
    return None if worst is None else worst[0]
