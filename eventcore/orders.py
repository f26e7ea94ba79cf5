"""Orders of fixed priorities that meet all deadlines, sets of tasks that admit none, and the room for greater costs."""

from itertools import combinations
from math import gcd

from eventcore.busy import MOST_LENGTH, arrived_work, bounded_length, worst_behind
from eventcore.errors import LongDeadline
from eventcore.tasks import check_tasks
from eventcore.values import check_order, is_ascending


def check_busy_sets(tasks):
    """Raise TooMany if for some task and some tasks in front of it the busy period is too long."""
    rows = list(tasks)
    for many in range(1, len(rows) + 1):
        for members in combinations(rows, many):
            bounded_length(0, members, MOST_LENGTH)


def fits_last(tasks, members, task):
    """Tell whether the task meets its deadline if exactly the other members stand in front of it."""
    front = [tasks[other] for other in members if other != task]
    worst = worst_behind(0, front, tasks[task])
    return worst is not None and worst[0] <= tasks[task][1]


def last_task(tasks, members):
    """Return a member that meets its deadline behind all the others, or None."""
    for task in members:
        if fits_last(tasks, members, task):
            return task
    return None


def placed_tasks(tasks):
    """Return the tasks that can be placed from the last place on, and the ascending list of those that cannot."""
    placed = []
    left = list(range(len(tasks)))
    task = last_task(tasks, left)
    # A task that fits behind the others fits behind fewer of them, too: no choice has to be taken back.
    while task is not None:
        placed = [task, *placed]
        left.remove(task)
        task = last_task(tasks, left)
    return placed, left


def feasible_order(tasks):
    """Return an order in which all tasks meet their deadlines, or None if there is none."""
    check_tasks(tasks)
    check_busy_sets(tasks)
    placed, left = placed_tasks(tasks)
    return None if left else tuple(placed)


def stuck_set(tasks):
    """Return a stuck set, or None if there is a feasible order."""
    check_tasks(tasks)
    check_busy_sets(tasks)
    _, left = placed_tasks(tasks)
    return tuple(left) if left else None


def shows_stuck(tasks, value):
    """Tell whether the value, which may be any value, is a stuck set."""
    check_tasks(tasks)
    check_busy_sets(tasks)
    if not is_ascending(value, len(tasks)) or len(value) == 0:
        return False
    return last_task(tasks, value) is None


def check_short_deadlines(tasks):
    """Raise LongDeadline if a task has a deadline that is greater than its gap."""
    for index, (_, deadline, gap) in enumerate(tasks):
        if deadline > gap:
            raise LongDeadline(index)


def is_less(ratio, other):
    """Tell whether the first ratio is less than the second one."""
    return ratio[0] * other[1] < other[0] * ratio[1]


def task_scale(members, deadline):
    """Return the greatest ratio of a length up to the deadline and the work that arrives before it."""
    best = (0, 1)
    for length in range(1, deadline + 1):
        ratio = (length, arrived_work(members, length))
        if is_less(best, ratio):
            best = ratio
    return best


def greatest_scale(tasks, order):
    """Return the greatest ratio by which all costs can be multiplied such that every deadline is met."""
    check_tasks(tasks)
    check_short_deadlines(tasks)
    check_order(order, len(tasks))
    members = []
    scales = []
    for task in order:
        members.append(tasks[task])
        scales.append(task_scale(members, tasks[task][1]))
    least = scales[0]
    for scale in scales:
        if is_less(scale, least):
            least = scale
    common = gcd(least[0], least[1])
    return (least[0] // common, least[1] // common)
