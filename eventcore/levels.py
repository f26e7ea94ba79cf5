"""Jobs of one unit in which some are finished before others begin: the fewest steps on several machines."""

from itertools import combinations

from eventcore.counting import rounded_up
from eventcore.errors import BadNumber, BadParents
from eventcore.jobs import check_links
from eventcore.values import check_machines, is_integer, is_tuple

MOST_JOBS = 10
MOST_LINKED_JOBS = 8


def check_parents(parents):
    """Raise BadParents unless the value is parents: for each job None or a job with a greater index."""
    if not is_tuple(parents, 1, MOST_JOBS):
        raise BadParents(None)
    for index, value in enumerate(parents):
        if value is not None and not is_integer(value, index + 1, len(parents) - 1):
            raise BadParents(index)


def job_levels(parents):
    """Return the level of each job: the number of steps from its own to the end of its chain of parents."""
    levels = [1] * len(parents)
    # A parent has the greater index, so that its level is known before it is needed.
    for job in reversed(range(len(parents))):
        if parents[job] is not None:
            levels[job] = levels[parents[job]] + 1
    return levels


def level_steps(parents, machines):
    """Return as few unit steps as possible."""
    check_parents(parents)
    check_machines(machines)
    levels = job_levels(parents)
    left = list(range(len(parents)))
    steps = []
    while left:
        held = [parents[job] for job in left]
        ready = [job for job in left if job not in held]
        # As no job has two parents, it is best to take those with the longest chains behind them.
        step = sorted(sorted(ready, key=lambda one: -levels[one])[:machines])
        steps.append(tuple(step))
        left = [job for job in left if job not in step]
    return tuple(steps)


def level_bound(parents, machines):
    """Return the number of the fewest unit steps: jobs above a level leave as many steps as the level behind them."""
    check_parents(parents)
    check_machines(machines)
    levels = job_levels(parents)
    bounds = []
    for low in range(max(levels)):
        bounds.append(low + rounded_up(len([level for level in levels if level > low]), machines))
    return max(bounds)


def next_pairs(many, links, done):
    """Return the steps that two machines may take next, none of them with a machine idle that could work."""
    held = [after for before, after in links if before not in done]
    ready = [job for job in range(many) if job not in done and job not in held]
    return [tuple(ready)] if len(ready) == 1 else list(combinations(ready, 2))


def two_machine_steps(many, links):
    """Return as few unit steps for two machines as possible, by looking at all sets of finished jobs."""
    if not is_integer(many, 1, MOST_LINKED_JOBS):
        raise BadNumber(f"not an integer from 1 to {MOST_LINKED_JOBS}")
    check_links(links, many)
    everything = tuple(range(many))
    reached = {(): ()}
    while everything not in reached:
        further = {}
        for done, steps in reached.items():
            for step in next_pairs(many, links, done):
                further[tuple(sorted([*done, *step]))] = (*steps, step)
        reached = further
    return reached[everything]
