"""Helpers of the tests: values of all kinds, checks of errors, random arguments, and slow oracles.

The oracles follow the words of the document as plainly as they can and share no code with the package.
"""

import copy
import random
from fractions import Fraction
from math import lcm

# One or more values of each kind that may be passed for any argument.
ANY_VALUES = (
    0, 1, 2, 7, -1, 101, 5001, 10 ** 30, "", "0", "fixed", "deadline", "whole deadline", "a" * 5000, True, False, None,
    (), (0,), (1,), (0, 1), (True,), (False, True), (None,), ("deadline",), ("slack",), ("fixed",), ("fixed", ()),
    ("fixed", [0, 1]), ((1, 1, 1),), ((1, 1, True),), (((),),), ((), ()), ({},), ([],),
    [], [0, 1], [(1, 1, 1)], [[], []], ["deadline"], [None], {}, {0: 1}, {"deadline": 0}, {(1, 2): [3]},
)


def frozen(value):
    """A copy of the value by which a later change of it is seen."""
    return copy.deepcopy(value)


def same(one, other):
    """Equal in value and in kind: 1 is not True, and a tuple is not a list."""
    if type(one) is not type(other):
        return False
    if isinstance(one, (tuple, list)):
        return len(one) == len(other) and all(same(a, b) for a, b in zip(one, other))
    if isinstance(one, dict):
        return one == other
    return one == other


class Checks:
    """Assertions that several test cases need; it stands beside unittest.TestCase as a base class."""

    def assert_same(self, one, other):
        self.assertTrue(same(one, other), f"{one!r} is not {other!r}")

    def assert_error(self, wanted, call, *arguments):
        """The call raises exactly the wanted error, with its fields, and leaves the arguments as they were."""
        before = frozen(arguments)
        try:
            answer = call(*arguments)
        except ValueError as error:
            self.assertIs(type(error), type(wanted), f"{arguments!r} raised {error!r}")
            self.assertTrue(same(vars(error), vars(wanted)), f"{arguments!r}: {vars(error)} is not {vars(wanted)}")
        else:
            self.fail(f"{arguments!r} returned {answer!r} instead of {wanted!r}")
        self.assertEqual(before, arguments)

    def assert_wrong_arguments(self, call, good, wrong):
        """Each wrong value in its place raises its error, and the leftmost of several goes first.

        `wrong` has, for each argument, a list of pairs (value, error).
        """
        for place, rows in enumerate(wrong):
            for count, (value, error) in enumerate(rows):
                arguments = list(good)
                arguments[place] = value
                self.assert_error(error, call, *arguments)
                for later in range(place + 1, len(wrong)):
                    for step in (0, 1, 7):
                        row = wrong[later][(count + step) % len(wrong[later])]
                        both = list(arguments)
                        both[later] = row[0]
                        self.assert_error(error, call, *both)

    def assert_steady(self, call, *arguments):
        """The arguments are not modified, and equal arguments have equal answers; returns the answer."""
        before = frozen(arguments)
        answer = call(*arguments)
        self.assertEqual(before, arguments)
        self.assert_same(answer, call(*frozen(arguments)))
        return answer


# Values that stand in the place of each kind of argument, with the error that the document names for them.

def wrong_tasks(errors):
    """Pairs of a value that is not a task set and its error."""
    rows = [(value, errors.BadTasks(None)) for value in ANY_VALUES if not isinstance(value, tuple)]
    rows += [(value, errors.BadTasks(0)) for value in ANY_VALUES
             if isinstance(value, tuple) and value not in ((), ((1, 1, 1),))]
    rows += [((), errors.BadTasks(None)), (((1, 1, 1),) * 7, errors.BadTasks(None)), ((5,) * 7, errors.BadTasks(None))]
    good = (1, 1, 1)
    for value in ANY_VALUES:
        if value != ((1, 1, 1),):
            rows.append(((value,), errors.BadTasks(0)))
            rows.append(((good, good, value, None), errors.BadTasks(2)))
    for bad in ((0, 1, 1), (21, 1, 1), (1, 0, 1), (1, 61, 1), (1, 1, 0), (1, 1, 61), (1, 1), (1, 1, 1, 1), [1, 1, 1],
                (True, 1, 1), (1, True, 1), (1, 1, True), ("1", 1, 1), (1, None, 1), (1, 1, (1,)), (1, 1, [])):
        rows.append(((bad,), errors.BadTasks(0)))
        rows.append(((good, bad, bad), errors.BadTasks(1)))
        rows.append(((good,) * 5 + (bad,), errors.BadTasks(5)))
    return rows


def wrong_patterns(errors):
    """Pairs for the task set ((2, 9, 5), (1, 9, 1))."""
    rows = [(value, errors.BadPattern(None)) for value in ANY_VALUES if not isinstance(value, tuple)]
    rows += [((), errors.BadPattern(None)), (((),), errors.BadPattern(None)), (((), (), ()), errors.BadPattern(None))]
    for bad in ([], [0], {}, None, 0, True, "0", (-1,), (101,), (0, 4), (0, 0), (5, 0), (True,), (False,), ("0",),
                (None,), ((),), ((0,),), (0, 5, 9), (0, 5, 101), (0, None), (0, True), (0, 5, [])):
        rows.append(((bad, ()), errors.BadPattern(0)))
        rows.append(((bad, bad), errors.BadPattern(0)))
        if bad not in ((0, 4), (0, 5, 9)):
            rows.append((((0, 5), bad), errors.BadPattern(1)))
    rows.append((((), tuple(range(41))), errors.TooMany(40)))
    rows.append((((0, 5), tuple(range(39))), errors.TooMany(40)))
    rows.append((((0, 4), tuple(range(60))), errors.BadPattern(0)))
    return rows


PATTERN_TASKS = ((2, 9, 5), (1, 9, 1))


def wrong_orders():
    """Values that are not orders of two tasks."""
    bad = [value for value in ANY_VALUES if not same(value, (0, 1))] + [(False, 1), (0, True), (1, False)]
    return bad + [(0, 0), (1, 1), (0, 2), (1, 2), (-1, 0), (0, 1, 1), (0, 1, 2), (0,), (0, "1"), (0, None), [0, 1],
                  [1, 0], ((0, 1),), {0: 0, 1: 1}, "01"]


def wrong_policies():
    """Values that are not policies for two tasks."""
    bad = [value for value in ANY_VALUES if value not in (("deadline",), ("slack",))]
    bad += [(word, order) for word in ("fixed", "whole") for order in wrong_orders()]
    bad += [(word, (0, 1)) for word in ("deadline", "slack", "whole deadline", "", "Fixed", True, None, (), [])]
    bad += [("fixed", (0, 1), 0), ("fixed", (0, 1), (0, 1)), ("whole", (0, 1), None), ("whole",), ("fixed",),
            ("deadline", None), ("deadline", ()), ("Deadline",), (("deadline",),), ("whole  deadline",),
            ("wholedeadline",), ("whole", "deadline"), ["deadline"], ["fixed", (0, 1)], "fixed", "slack",
            (["deadline"],), ({},)]
    return bad


def wrong_indexes(many):
    """Values that are not indexes below the number."""
    bad = [value for value in ANY_VALUES if isinstance(value, bool) or not isinstance(value, int)]
    return bad + [-1, many, many + 1, 10 ** 30]


def wrong_lengths(high):
    """Values that are not integers from 0 to high."""
    bad = [value for value in ANY_VALUES if isinstance(value, bool) or not isinstance(value, int)]
    return bad + [-1, high + 1, 10 ** 30, -10 ** 30]


# Random arguments. Every test makes its own generator from a fixed number, so that each run is the same.

def random_task(rng, most_cost=6, most_gap=12, most_deadline=14):
    return (rng.randint(1, most_cost), rng.randint(1, most_deadline), rng.randint(1, most_gap))


def random_tasks(rng, most=4, **limits):
    return tuple(random_task(rng, **limits) for _ in range(rng.randint(1, most)))


def random_pattern(rng, tasks, most=5, spread=6):
    rows = []
    for _, _, gap in tasks:
        time = rng.randint(0, spread)
        row = []
        for _ in range(rng.randint(0, most)):
            if time > 100:
                break
            row.append(time)
            time += gap + rng.choice((0, 0, 1, rng.randint(0, spread)))
        rows.append(tuple(row))
    return tuple(rows)


def random_order(rng, tasks):
    order = list(range(len(tasks)))
    rng.shuffle(order)
    return tuple(order)


def all_policies(order):
    return [("fixed", order), ("deadline",), ("slack",), ("whole", order), ("whole deadline",)]


# The oracles.

class Job:
    """One job of a pattern, with what it still needs."""

    def __init__(self, task, number, arrival, cost, deadline):
        self.task, self.number, self.arrival, self.left = task, number, arrival, cost
        self.due, self.begun, self.finish = arrival + deadline, False, None


def jobs_of(tasks, pattern):
    return [Job(task, number, arrival, tasks[task][0], tasks[task][1])
            for task, row in enumerate(pattern) for number, arrival in enumerate(row)]


def run_jobs(jobs, policy, until=None):
    """Runs the jobs unit by unit as point 3 says; returns the list of the jobs that ran, with None for idle units."""
    ran = []
    open_jobs = sorted(jobs, key=lambda job: (job.arrival, job.task))
    time = 0
    while open_jobs and (until is None or time < until):
        first = {}
        for job in open_jobs:
            if job.arrival > time:
                break
            first.setdefault(job.task, job)
        ready = list(first.values())
        if policy[0].startswith("whole") and any(job.begun for job in ready):
            ready = [job for job in ready if job.begun]
        best = None
        for job in ready:
            if policy[0] in ("fixed", "whole"):
                key = (policy[1].index(job.task), 0)
            elif policy[0] == "slack":
                key = (job.due - time - job.left, job.task)
            else:
                key = (job.due, job.task)
            if best is None or key < best[0]:
                best = (key, job)
        ran.append(None if best is None else best[1])
        if best is not None:
            job = best[1]
            job.begun = True
            job.left -= 1
            if job.left == 0:
                job.finish = time + 1
                open_jobs.remove(job)
        time += 1
    return ran


def oracle_schedule(tasks, pattern, policy):
    return tuple(None if job is None else job.task for job in run_jobs(jobs_of(tasks, pattern), policy))


def oracle_runs(tasks, pattern, policy):
    runs = []
    for unit, job in enumerate(run_jobs(jobs_of(tasks, pattern), policy)):
        if job is not None:
            if runs and runs[-1][1] == unit and runs[-1][2:] == [job.task, job.number]:
                runs[-1][1] = unit + 1
            else:
                runs.append([unit, unit + 1, job.task, job.number])
    return tuple(tuple(run) for run in runs)


def oracle_finishes(tasks, pattern, policy):
    jobs = jobs_of(tasks, pattern)
    run_jobs(jobs, policy)
    rows = [[] for _ in tasks]
    for job in jobs:
        rows[job.task].append(job.finish)
    return tuple(tuple(row) for row in rows)


def rate(tasks):
    return sum(Fraction(cost, gap) for cost, _, gap in tasks)


def oracle_length(extra, tasks, most=20000):
    """The least positive length of points 6, 8 and 11, by trying all of them; None if there is none."""
    if rate(tasks) > 1 or (rate(tasks) == 1 and extra > 0):
        return None
    for length in range(1, most + 1):
        if extra + sum(cost * (length // gap + (length % gap > 0)) for cost, _, gap in tasks) <= length:
            return length
    return most + 1


def multiples(tasks, stop, starts=None):
    """The pattern with arrivals at the starts and at all multiples of the gaps behind them, before stop."""
    starts = [0] * len(tasks) if starts is None else starts
    return tuple(tuple(range(start, stop, gap)) for start, (_, _, gap) in zip(starts, tasks))


def hyper(tasks):
    return lcm(*[gap for _, _, gap in tasks])


def rng_of(number):
    return random.Random(number)
