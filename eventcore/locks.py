"""Locked tasks: the ceilings of their locks, rings of locks, and the schedules of the four protocols.

What has happened before a unit is kept as `done`, the number of units that each task has run, as in simulation.py.
It also tells which locks are held: only the first unfinished job of a task can have begun.
"""

from itertools import combinations, permutations

from eventcore.errors import BadLocked, BadProtocol
from eventcore.simulation import has_begun, ready_tasks, work_of
from eventcore.tasks import MOST_COST, MOST_GAP, check_pattern
from eventcore.values import is_integer, is_row, is_tuple

LOCKS = 4
MOST_SECTIONS = 4
MOST_LOCKED = 5


def fit_together(one, other):
    """Tell whether two sections can stand in one task; the second one does not begin earlier."""
    start, length, lock = one
    other_start, other_length, other_lock = other
    if other_start >= start + length:
        return True
    # Of two sections that begin together, one is always inside the other.
    inside = other_start == start or other_start + other_length <= start + length
    return inside and length != other_length and lock != other_lock


def are_sections(value, cost):
    """Tell whether the value is an ascending tuple of sections that can stand in one task of this cost."""
    if not is_tuple(value, 0, MOST_SECTIONS):
        return False
    for section in value:
        if not is_row(section, ((0, cost), (1, cost), (0, LOCKS - 1))) or section[0] + section[1] > cost:
            return False
    rows = list(value)
    for one, other in combinations(rows, 2):
        if one > other or not fit_together(one, other):
            return False
    return True


def is_locked_task(value):
    """Tell whether the value is a locked task (cost, gap, sections)."""
    if not is_tuple(value, 3, 3):
        return False
    cost, gap, sections = value
    return is_integer(cost, 1, MOST_COST) and is_integer(gap, 1, MOST_GAP) and are_sections(sections, cost)


def check_locked(tasks):
    """Raise BadLocked unless the value is a tuple of locked tasks."""
    if not is_tuple(tasks, 1, MOST_LOCKED):
        raise BadLocked(None)
    for index, value in enumerate(tasks):
        if not is_locked_task(value):
            raise BadLocked(index)


def plain_tasks(tasks):
    """Return the task set with the costs and the gaps of the locked tasks, for what looks at nothing else of them."""
    return tuple([(cost, gap, gap) for cost, gap, _ in tasks])


def check_locked_run(tasks, pattern, protocol):
    """Raise the error of the first of the three arguments that is not allowed."""
    check_locked(tasks)
    check_pattern(plain_tasks(tasks), pattern)
    if protocol not in ("plain", "inherit", "ceiling", "stack"):
        raise BadProtocol("not the name of a protocol")


def lock_ceilings(tasks):
    """Return the ceilings of all locks, for tasks that have been checked."""
    rows = [None] * LOCKS
    for task, (_, _, sections) in enumerate(tasks):
        for _, _, lock in sections:
            if rows[lock] is None:
                rows[lock] = task
    return tuple(rows)


def ceilings(tasks):
    """Return the tuple of the ceilings of the locks 0 to 3, None for a lock without a section."""
    check_locked(tasks)
    return lock_ceilings(tasks)


def leading_pairs(tasks):
    """Return a dict with the pairs of locks of which the first one leads to the second one."""
    pairs = {}
    for _, _, sections in tasks:
        for start, length, lock in sections:
            for other_start, _, other_lock in sections:
                # A section that begins inside another one also ends there.
                if start < other_start < start + length:
                    pairs[(lock, other_lock)] = True
    return pairs


def lock_ring(tasks):
    """Return the least of the shortest rings of locks that lead to each other, or None if there is none."""
    check_locked(tasks)
    pairs = leading_pairs(tasks)
    for many in range(2, LOCKS + 1):
        for ring in permutations(range(LOCKS), many):
            if all([(ring[place - 1], lock) in pairs for place, lock in enumerate(ring)]):
                return ring
    return None


def held_locks(tasks, done, task):
    """Return the locks that the first unfinished job of the task holds."""
    cost, _, sections = tasks[task]
    own = done[task] % cost
    return [lock for start, length, lock in sections if start < own < start + length]


def needed_locks(tasks, done, task):
    """Return the locks that the first unfinished job of the task must take before its next unit."""
    cost, _, sections = tasks[task]
    own = done[task] % cost
    return [lock for start, _, lock in sections if start == own]


def stands_in_the_way(tasks, protocol, done, task, lock):
    """Tell whether the first unfinished job of the task may not run while another job holds the lock."""
    needed = needed_locks(tasks, done, task)
    if protocol in ("plain", "inherit"):
        return lock in needed
    if protocol == "ceiling" and not needed:
        return False
    if protocol == "stack" and has_begun(tasks, done, task):
        return False
    return lock_ceilings(tasks)[lock] <= task


def holders(tasks, protocol, done, task):
    """Return the other tasks with a lock in the way of the task: its job may not run if there is one."""
    found = []
    for other in range(len(tasks)):
        locks = held_locks(tasks, done, other) if other != task else []
        if any([stands_in_the_way(tasks, protocol, done, task, lock) for lock in locks]):
            found.append(other)
    return found


def current_priorities(tasks, protocol, done, waiting):
    """Return the current priority of the first unfinished job of each task, a small number for a high one.

    `waiting` has, for each task with a job that may not run, the tasks for which it waits.
    """
    ranks = list(range(len(tasks)))
    if protocol == "stack":
        tops = lock_ceilings(tasks)
        return [min([rank, *[tops[lock] for lock in held_locks(tasks, done, rank)]]) for rank in ranks]
    if protocol in ("inherit", "ceiling"):
        # A priority passes along a chain of waiting jobs, which is no longer than the number of tasks.
        for _ in tasks:
            for task, others in waiting.items():
                for other in others:
                    ranks[other] = min(ranks[other], ranks[task])
    return ranks


def next_locked(tasks, pattern, protocol, done, unit):
    """Return the task that the protocol runs in the unit, or None if no job may run."""
    ready = ready_tasks(tasks, pattern, done, unit)
    waiting = {task: holders(tasks, protocol, done, task) for task in ready}
    ranks = current_priorities(tasks, protocol, done, waiting)
    # Under "stack" a begun job comes ahead of one that is not; otherwise the smallest task goes first.
    fresh = [protocol == "stack" and not has_begun(tasks, done, task) for task in range(len(tasks))]
    free = [task for task in ready if not waiting[task]]
    return min(free, key=lambda one: (ranks[one], fresh[one], one), default=None)


def locked_run(tasks, pattern, protocol):
    """Return (schedule, stuck) of the protocol, for arguments that have been checked."""
    work = work_of(tasks, pattern)
    latest = max([max(arrivals, default=0) for arrivals in pattern])
    done = [0] * len(tasks)
    schedule = []
    stop = 0
    while done != work:
        task = next_locked(tasks, pattern, protocol, done, len(schedule))
        if task is None and len(schedule) >= latest:
            break
        schedule.append(task)
        if task is not None:
            done[task] += 1
            stop = len(schedule)
    stuck = [task for task in range(len(tasks)) if done[task] < work[task]]
    return tuple(schedule[:stop]), tuple(stuck)


def simulate_locked(tasks, pattern, protocol):
    """Return the schedule of the protocol, and the ascending tuple of the tasks that are stuck at its end."""
    check_locked_run(tasks, pattern, protocol)
    return locked_run(tasks, pattern, protocol)
