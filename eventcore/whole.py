"""Jobs that run on once they have begun: blocked lengths, regions without interruption, worst response times."""

from eventcore.busy import MOST_LENGTH, bounded_length, least_length
from eventcore.counting import rounded_up
from eventcore.deadlines import demand_at, least_overfull, sure_length
from eventcore.errors import TooMany
from eventcore.fixed import check_places, in_front
from eventcore.schedules import finish_times
from eventcore.simulation import check_run, policy_schedule
from eventcore.tasks import MOST_DEADLINE, check_tasks, with_task
from eventcore.values import check_task, first_greatest


def blocking_task(tasks, length, work):
    """Return the task of the greatest cost that blocks a length with a demand of so much work, or None."""
    blocking = []
    for task, (cost, deadline, _) in enumerate(tasks):
        if deadline > length and work > 0 and work + cost - 1 > length:
            blocking.append(task)
    # Of several greatest costs max takes the first one, and so the smallest task.
    return max(blocking, key=lambda one: tasks[one][0], default=None)


def whole_overfull(tasks):
    """Return the least length that is overfull or blocked with the task that blocks it, or None if there is none."""
    check_tasks(tasks)
    sure = sure_length(tasks)
    # A blocked length is less than some deadline, whatever the bound of the overfull lengths.
    most = MOST_LENGTH if sure is None else max(sure, MOST_DEADLINE)
    for length in range(1, most + 1):
        work = demand_at(tasks, length)
        if work > length:
            return (length, None)
        task = blocking_task(tasks, length, work)
        if task is not None:
            return (length, task)
    if sure is None:
        raise TooMany(MOST_LENGTH)
    return None


def longest_region(tasks, task):
    """Return for how many units, at most its cost, the task may run on alone; None if a length is overfull."""
    check_tasks(tasks)
    check_task(task, len(tasks))
    if least_overfull(tasks) is not None:
        return None
    longest, deadline, _ = tasks[task]
    for length in range(1, deadline):
        work = demand_at(tasks, length)
        if work > 0:
            longest = min(longest, length - work + 1)
    return longest


def blocking_units(tasks, order, task):
    """Return for how many units a job of a task behind can keep a job of the task waiting."""
    costs = [tasks[other][0] for other in order[order.index(task) + 1:]]
    return max(costs, default=1) - 1


def worst_whole_response(tasks, order, task):
    """Return (response, number) of the worst job of the task if begun jobs run on; None if no length is enough."""
    check_places(tasks, order, task)
    front = in_front(tasks, order, task)
    blocked = blocking_units(tasks, order, task)
    length = bounded_length(blocked, [*front, tasks[task]], MOST_LENGTH)
    if length is None:
        return None
    cost, _, gap = tasks[task]
    times = []
    for number in range(rounded_up(length, gap)):
        # A job in front that arrives just when this one could begin goes first: one more unit counts its arrival in.
        begin = least_length(blocked + number * cost + 1, front, MOST_LENGTH) - 1
        times.append(begin + cost - number * gap)
    return first_greatest(times)


def some_later(before, after):
    """Tell whether some job finishes later after a change than before it."""
    for ends, others in zip(before, after):
        for end, other in zip(ends, others):
            if other > end:
                return True
    return False


def later_when_shorter(tasks, pattern, policy):
    """Return the ascending tuple of the tasks that make some job finish later if their cost is one less."""
    check_run(tasks, pattern, policy)
    before = finish_times(tasks, policy_schedule(tasks, pattern, policy))
    found = []
    for task, (cost, deadline, gap) in enumerate(tasks):
        if cost > 1:
            changed = with_task(tasks, task, (cost - 1, deadline, gap))
            if some_later(before, finish_times(changed, policy_schedule(changed, pattern, policy))):
                found.append(task)
    return tuple(found)
