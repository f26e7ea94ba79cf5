"""Task sets, patterns and jobs: which values they are, and the pattern of arrivals at all multiples of the gaps."""

from eventcore.errors import BadPattern, BadTasks, TooMany
from eventcore.values import check_length, is_integer, is_tuple

MOST_TASKS = 6
MOST_COST = 20
MOST_DEADLINE = 60
MOST_GAP = 60
LAST_ARRIVAL = 100
MOST_ARRIVALS = 40


def is_task(value):
    """Tell whether the value is a task: a tuple (cost, deadline, gap)."""
    if not is_tuple(value, 3, 3):
        return False
    cost, deadline, gap = value
    if not is_integer(cost, 1, MOST_COST):
        return False
    return is_integer(deadline, 1, MOST_DEADLINE) and is_integer(gap, 1, MOST_GAP)


def check_tasks(tasks):
    """Raise BadTasks unless the value is a task set."""
    if not is_tuple(tasks, 1, MOST_TASKS):
        raise BadTasks(None)
    for index, value in enumerate(tasks):
        if not is_task(value):
            raise BadTasks(index)


def with_task(tasks, index, task):
    """Return the tasks with another task at the index."""
    return tasks[:index] + (task,) + tasks[index + 1:]


def are_arrivals(value, gap):
    """Tell whether the value is a tuple of arrivals, each one at least the gap after the one before."""
    if not isinstance(value, tuple):
        return False
    earliest = 0
    for arrival in value:
        if not is_integer(arrival, earliest, LAST_ARRIVAL):
            return False
        earliest = arrival + gap
    return True


def check_pattern(tasks, pattern):
    """Raise BadPattern unless the value is a pattern for the tasks, and TooMany if it has too many arrivals."""
    if not is_tuple(pattern, len(tasks), len(tasks)):
        raise BadPattern(None)
    for index, arrivals in enumerate(pattern):
        if not are_arrivals(arrivals, tasks[index][2]):
            raise BadPattern(index)
    check_arrivals(pattern)


def check_arrivals(pattern):
    """Raise TooMany if the pattern has too many arrivals in all."""
    if sum([len(arrivals) for arrivals in pattern]) > MOST_ARRIVALS:
        raise TooMany(MOST_ARRIVALS)


def synchronous(tasks, length):
    """Return the pattern in which each task arrives at all multiples of its gap that are less than the length."""
    check_tasks(tasks)
    check_length(length, 0, LAST_ARRIVAL)
    pattern = tuple([tuple(range(0, length, gap)) for _, _, gap in tasks])
    check_arrivals(pattern)
    return pattern
