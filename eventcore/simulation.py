"""The five policies, and the schedules that they give for a pattern of arrivals.

What has happened before a unit is kept as `done`: a list with the number of units that each task has run.
As the jobs of a task run one after the other, it tells which jobs are finished and which one has begun.
"""

from eventcore.errors import BadPolicy
from eventcore.tasks import check_pattern, check_tasks
from eventcore.values import is_order, is_tuple


def is_policy(tasks, value):
    """Tell whether the value is a policy for the tasks."""
    if is_tuple(value, 1, 1):
        return value[0] in ("deadline", "slack", "whole deadline")
    if is_tuple(value, 2, 2):
        return value[0] in ("fixed", "whole") and is_order(value[1], len(tasks))
    return False


def check_policy(tasks, policy):
    """Raise BadPolicy unless the value is a policy for the tasks."""
    if not is_policy(tasks, policy):
        raise BadPolicy("not a policy for the tasks")


def check_run(tasks, pattern, policy):
    """Raise the error of the first of the three arguments that is not allowed."""
    check_tasks(tasks)
    check_pattern(tasks, pattern)
    check_policy(tasks, policy)


def has_job(tasks, pattern, done, task, unit):
    """Tell whether a job of the task has arrived at the beginning of the unit or before it and is not finished."""
    number = done[task] // tasks[task][0]
    arrivals = pattern[task]
    return number < len(arrivals) and arrivals[number] <= unit


def ready_tasks(tasks, pattern, done, unit):
    """Return the list of the tasks with a job that has arrived and is not finished."""
    return [task for task in range(len(tasks)) if has_job(tasks, pattern, done, task, unit)]


def has_begun(tasks, done, task):
    """Tell whether the first unfinished job of the task has run."""
    return done[task] % tasks[task][0] > 0


def job_rank(tasks, pattern, policy, done, task):
    """Return a number for the first unfinished job of the task; the smallest number comes first."""
    if policy[0] in ("fixed", "whole"):
        return policy[1].index(task)
    cost, deadline, _ = tasks[task]
    due = pattern[task][done[task] // cost] + deadline
    if policy[0] == "slack":
        # The current time is not taken off: it is the same for all jobs that are compared.
        return due - (cost - done[task] % cost)
    return due


def next_task(tasks, pattern, policy, done, unit):
    """Return the task that the policy runs in the unit, or None if no job is there."""
    ready = ready_tasks(tasks, pattern, done, unit)
    if policy[0] in ("whole", "whole deadline"):
        begun = [task for task in ready if has_begun(tasks, done, task)]
        if begun:
            return begun[0]
    # Of several smallest numbers min takes the first one, and so the smallest task.
    return min(ready, key=lambda one: job_rank(tasks, pattern, policy, done, one), default=None)


def work_of(tasks, pattern):
    """Return, for each task, the number of units that all its jobs need."""
    return [tasks[task][0] * len(arrivals) for task, arrivals in enumerate(pattern)]


def table_schedule(tasks, pattern, policy, table):
    """Return the schedule of the policy if tasks run only in units with a one in the table, which is repeated."""
    done = [0] * len(tasks)
    left = sum(work_of(tasks, pattern))
    schedule = []
    while left > 0:
        unit = len(schedule)
        task = next_task(tasks, pattern, policy, done, unit) if table[unit % len(table)] == 1 else None
        schedule.append(task)
        if task is not None:
            done[task] += 1
            left -= 1
    return tuple(schedule)


def policy_schedule(tasks, pattern, policy):
    """Return the schedule of the policy, for arguments that have been checked."""
    return table_schedule(tasks, pattern, policy, (1,))


def simulate(tasks, pattern, policy):
    """Return the schedule of the policy: the task that runs in each unit, or None."""
    check_run(tasks, pattern, policy)
    return policy_schedule(tasks, pattern, policy)


def simulate_runs(tasks, pattern, policy):
    """Return the schedule of the policy as a tuple of runs (start, stop, task, number)."""
    schedule = simulate(tasks, pattern, policy)
    done = [0] * len(tasks)
    runs = []
    for unit, task in enumerate(schedule):
        if task is None:
            continue
        number = done[task] // tasks[task][0]
        done[task] += 1
        if runs and runs[-1][1:] == (unit, task, number):
            runs[-1] = (runs[-1][0], unit + 1, task, number)
        else:
            runs.append((unit, unit + 1, task, number))
    return tuple(runs)
