"""What a schedule of a pattern is, and what can be read off it: finish times, response times, missed jobs."""

from eventcore.errors import BadSchedule
from eventcore.simulation import check_run, has_job, policy_schedule, work_of
from eventcore.tasks import check_pattern, check_tasks
from eventcore.values import is_integer


def units_done(tasks, pattern, value):
    """Return the number of units that each task runs in the value, or None if it runs where no job is there.

    None is also returned for a value that is not a tuple of tasks and None.
    """
    if not isinstance(value, tuple):
        return None
    done = [0] * len(tasks)
    for unit, entry in enumerate(value):
        if entry is None:
            continue
        if not is_integer(entry, 0, len(tasks) - 1) or not has_job(tasks, pattern, done, entry, unit):
            return None
        done[entry] += 1
    return done


def is_schedule(tasks, pattern, value):
    """Tell whether the value is a schedule for the pattern."""
    if units_done(tasks, pattern, value) != work_of(tasks, pattern):
        return False
    return len(value) == 0 or value[-1] is not None


def check_schedule(tasks, pattern, schedule):
    """Raise the error of the first of the three arguments that is not allowed."""
    check_tasks(tasks)
    check_pattern(tasks, pattern)
    if not is_schedule(tasks, pattern, schedule):
        raise BadSchedule("not a schedule for the pattern")


def shows_schedule(tasks, pattern, value):
    """Tell whether the value, which may be any value, is a schedule for the pattern."""
    check_tasks(tasks)
    check_pattern(tasks, pattern)
    return is_schedule(tasks, pattern, value)


def finish_times(tasks, schedule):
    """Return the finish times of the jobs of each task, for a schedule that has been checked."""
    done = [0] * len(tasks)
    rows = [[] for _ in tasks]
    for unit, task in enumerate(schedule):
        if task is not None:
            done[task] += 1
            if done[task] % tasks[task][0] == 0:
                rows[task].append(unit + 1)
    return tuple([tuple(row) for row in rows])


def finishes(tasks, pattern, schedule):
    """Return the tuple, for each task, of the tuple of the finish times of its jobs."""
    check_schedule(tasks, pattern, schedule)
    return finish_times(tasks, schedule)


def responses(tasks, pattern, policy):
    """Return the tuple, for each task, of the tuple of the response times of its jobs under the policy."""
    check_run(tasks, pattern, policy)
    rows = []
    for arrivals, ends in zip(pattern, finish_times(tasks, policy_schedule(tasks, pattern, policy))):
        rows.append(tuple([end - arrival for arrival, end in zip(arrivals, ends)]))
    return tuple(rows)


def late_jobs(tasks, pattern, schedule):
    """Return the jobs (task, number) that finish after their due times in a schedule that has been checked."""
    late = []
    for task, ends in enumerate(finish_times(tasks, schedule)):
        for number, end in enumerate(ends):
            if end > pattern[task][number] + tasks[task][1]:
                late.append((task, number))
    return tuple(late)


def missed(tasks, pattern, policy):
    """Return the ascending tuple of the pairs (task, number) of the jobs that finish after their due times."""
    check_run(tasks, pattern, policy)
    return late_jobs(tasks, pattern, policy_schedule(tasks, pattern, policy))


def idle_units(tasks, pattern):
    """Return the ascending tuple of the units before the last finish in which no task runs."""
    check_tasks(tasks)
    check_pattern(tasks, pattern)
    # Every policy leaves the same units idle, so any of them may be asked.
    schedule = policy_schedule(tasks, pattern, ("deadline",))
    return tuple([unit for unit, task in enumerate(schedule) if task is None])
