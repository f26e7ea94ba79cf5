"""Fixed priorities: busy periods and the worst response times over all sequences of arrivals."""

from eventcore.busy import MOST_LENGTH, bounded_length, worst_behind
from eventcore.tasks import check_tasks
from eventcore.values import check_order, check_task


def in_front(tasks, order, task):
    """Return the tasks that stand in front of a task in the order."""
    return [tasks[other] for other in order[:order.index(task)]]


def worst_in_order(tasks, order, task):
    """Return (response, number) of the worst job of the task in the order, or None."""
    return worst_behind(0, in_front(tasks, order, task), tasks[task])


def check_places(tasks, order, task):
    """Raise the error of the first of the three arguments that is not allowed."""
    check_tasks(tasks)
    check_order(order, len(tasks))
    check_task(task, len(tasks))


def busy_period(tasks, order, task):
    """Return the busy period of the task in the order, or None if there is none."""
    check_places(tasks, order, task)
    return bounded_length(0, [*in_front(tasks, order, task), tasks[task]], MOST_LENGTH)


def worst_response(tasks, order, task):
    """Return the greatest response time of a job of the task under the order, or None if there is no bound."""
    check_places(tasks, order, task)
    worst = worst_in_order(tasks, order, task)
    return None if worst is None else worst[0]


def worst_job(tasks, order, task):
    """Return the number of the first job in the busy period that has the worst response, or None."""
    check_places(tasks, order, task)
    worst = worst_in_order(tasks, order, task)
    return None if worst is None else worst[1]


def meets_fixed(tasks, order):
    """Tell whether every task has a worst response that is not greater than its deadline."""
    check_tasks(tasks)
    check_order(order, len(tasks))
    # All tasks are asked before any is judged, so that a busy period that is too long is always told.
    rows = [worst_in_order(tasks, order, task) for task in range(len(tasks))]
    for task, worst in enumerate(rows):
        if worst is None or worst[0] > tasks[task][1]:
            return False
    return True
