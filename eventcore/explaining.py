"""Which policies explain a schedule: forced pairs, orders, the first breach of a policy, and deadlines."""

from itertools import permutations

from eventcore.schedules import check_schedule
from eventcore.simulation import check_policy, next_task, ready_tasks
from eventcore.tasks import MOST_DEADLINE, with_task
from eventcore.values import check_task


def forced_pairs(tasks, pattern, schedule):
    """Return the pairs (a, b) of tasks of which a runs while a job of b waits; None if a job waits in an idle unit."""
    check_schedule(tasks, pattern, schedule)
    pairs = {}
    done = [0] * len(tasks)
    for unit, task in enumerate(schedule):
        ready = ready_tasks(tasks, pattern, done, unit)
        if task is None and ready:
            return None
        for other in ready:
            if other != task:
                pairs[(task, other)] = True
        if task is not None:
            done[task] += 1
    return tuple(sorted(pairs))


def explaining_orders(tasks, pattern, schedule):
    """Return the ascending tuple of the orders whose fixed priorities give the schedule."""
    pairs = forced_pairs(tasks, pattern, schedule)
    if pairs is None:
        return ()
    orders = []
    # The permutations of an ascending range come in ascending order.
    for order in permutations(range(len(tasks))):
        if all([order.index(front) < order.index(behind) for front, behind in pairs]):
            orders.append(order)
    return tuple(orders)


def breach(tasks, pattern, schedule, policy):
    """Return the first unit in which the policy has another entry, or None, for arguments that have been checked."""
    done = [0] * len(tasks)
    for unit, task in enumerate(schedule):
        if next_task(tasks, pattern, policy, done, unit) != task:
            return unit
        if task is not None:
            done[task] += 1
    # All jobs are finished here, so that no policy goes on.
    return None


def first_breach(tasks, pattern, schedule, policy):
    """Return the least unit in which the policy, after the units before it, has another entry, or None."""
    check_schedule(tasks, pattern, schedule)
    check_policy(tasks, policy)
    return breach(tasks, pattern, schedule, policy)


def deadline_choices(tasks, pattern, schedule, task):
    """Return the least and the greatest deadline of the task for which earliest deadlines give the schedule."""
    check_schedule(tasks, pattern, schedule)
    check_task(task, len(tasks))
    cost, _, gap = tasks[task]
    choices = []
    for deadline in range(1, MOST_DEADLINE + 1):
        if breach(with_task(tasks, task, (cost, deadline, gap)), pattern, schedule, ("deadline",)) is None:
            choices.append(deadline)
    return (choices[0], choices[-1]) if choices else None
