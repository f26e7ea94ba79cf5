"""Helpers of the tests: values of all kinds, checks of errors, random arguments, and slow oracles.

The oracles follow the words of the document as plainly as they can and share no code with the package.
"""

import copy
import random
from fractions import Fraction
from itertools import combinations
from math import lcm

# One or more values of each kind that may be passed for any argument.
ANY_VALUES = (
    0, 1, 2, 7, -1, 101, 5001, 10 ** 30, "", "0", "fixed", "deadline", "whole deadline", "a" * 5000, True, False, None,
    (), (0,), (1,), (0, 1), (True,), (False, True), (None,), ("deadline",), ("slack",), ("fixed",), ("fixed", ()),
    ("fixed", [0, 1]), ((1, 1, 1),), ((1, 1, True),), (((),),), ((), ()), ({},), ([],),
    [], [0, 1], [(1, 1, 1)], [[], []], ["deadline"], [None], {}, {0: 1}, {"deadline": 0}, {(1, 2): [3]},
)


def frozen(value):
    """A copy of the value by which a later change of it is seen."""
    return copy.deepcopy(value)


def same(one, other):
    """Equal in value and in kind: 1 is not True, and a tuple is not a list."""
    if type(one) is not type(other):
        return False
    if isinstance(one, (tuple, list)):
        return len(one) == len(other) and all(same(a, b) for a, b in zip(one, other))
    if isinstance(one, dict):
        return one == other
    return one == other


class Checks:
    """Assertions that several test cases need; it stands beside unittest.TestCase as a base class."""

    def assert_same(self, one, other):
        self.assertTrue(same(one, other), f"{one!r} is not {other!r}")

    def assert_error(self, wanted, call, *arguments):
        """The call raises exactly the wanted error, with its fields, and leaves the arguments as they were."""
        before = frozen(arguments)
        try:
            answer = call(*arguments)
        except ValueError as error:
            self.assertIs(type(error), type(wanted), f"{arguments!r} raised {error!r}")
            self.assertTrue(same(vars(error), vars(wanted)), f"{arguments!r}: {vars(error)} is not {vars(wanted)}")
        else:
            self.fail(f"{arguments!r} returned {answer!r} instead of {wanted!r}")
        self.assertEqual(before, arguments)

    def assert_wrong_arguments(self, call, good, wrong):
        """Each wrong value in its place raises its error, and the leftmost of several goes first.

        `wrong` has, for each argument, a list of pairs (value, error).
        """
        for place, rows in enumerate(wrong):
            for count, (value, error) in enumerate(rows):
                arguments = list(good)
                arguments[place] = value
                self.assert_error(error, call, *arguments)
                for later in range(place + 1, len(wrong)):
                    for step in (0, 1, 7):
                        row = wrong[later][(count + step) % len(wrong[later])]
                        both = list(arguments)
                        both[later] = row[0]
                        self.assert_error(error, call, *both)

    def assert_steady(self, call, *arguments):
        """The arguments are not modified, and equal arguments have equal answers; returns the answer."""
        before = frozen(arguments)
        answer = call(*arguments)
        self.assertEqual(before, arguments)
        self.assert_same(answer, call(*frozen(arguments)))
        return answer


# Values that stand in the place of each kind of argument, with the error that the document names for them.

def wrong_tasks(errors):
    """Pairs of a value that is not a task set and its error."""
    rows = [(value, errors.BadTasks(None)) for value in ANY_VALUES if not isinstance(value, tuple)]
    rows += [(value, errors.BadTasks(0)) for value in ANY_VALUES
             if isinstance(value, tuple) and value not in ((), ((1, 1, 1),))]
    rows += [((), errors.BadTasks(None)), (((1, 1, 1),) * 7, errors.BadTasks(None)), ((5,) * 7, errors.BadTasks(None))]
    good = (1, 1, 1)
    for value in ANY_VALUES:
        if value != ((1, 1, 1),):
            rows.append(((value,), errors.BadTasks(0)))
            rows.append(((good, good, value, None), errors.BadTasks(2)))
    for bad in ((0, 1, 1), (21, 1, 1), (1, 0, 1), (1, 61, 1), (1, 1, 0), (1, 1, 61), (1, 1), (1, 1, 1, 1), [1, 1, 1],
                (True, 1, 1), (1, True, 1), (1, 1, True), ("1", 1, 1), (1, None, 1), (1, 1, (1,)), (1, 1, [])):
        rows.append(((bad,), errors.BadTasks(0)))
        rows.append(((good, bad, bad), errors.BadTasks(1)))
        rows.append(((good,) * 5 + (bad,), errors.BadTasks(5)))
    return rows


def wrong_patterns(errors):
    """Pairs for the task set ((2, 9, 5), (1, 9, 1))."""
    rows = [(value, errors.BadPattern(None)) for value in ANY_VALUES if not isinstance(value, tuple)]
    rows += [((), errors.BadPattern(None)), (((),), errors.BadPattern(None)), (((), (), ()), errors.BadPattern(None))]
    for bad in ([], [0], {}, None, 0, True, "0", (-1,), (101,), (0, 4), (0, 0), (5, 0), (True,), (False,), ("0",),
                (None,), ((),), ((0,),), (0, 5, 9), (0, 5, 101), (0, None), (0, True), (0, 5, [])):
        rows.append(((bad, ()), errors.BadPattern(0)))
        rows.append(((bad, bad), errors.BadPattern(0)))
        if bad not in ((0, 4), (0, 5, 9)):
            rows.append((((0, 5), bad), errors.BadPattern(1)))
    rows.append((((), tuple(range(41))), errors.TooMany(40)))
    rows.append((((0, 5), tuple(range(39))), errors.TooMany(40)))
    rows.append((((0, 4), tuple(range(60))), errors.BadPattern(0)))
    return rows


PATTERN_TASKS = ((2, 9, 5), (1, 9, 1))


def wrong_schedules(errors):
    """Pairs for the task set above and the pattern below."""
    bad = list(ANY_VALUES)
    bad += [(0, 0, 1, None, 0, 0), (0, 0, 1, None, None, 0, 0, None), (0, 0, 1, None, None, 0),
            [0, 0, 1, None, None, 0, 0], (0, 0, True, None, None, 0, 0), (0, 1, 0, None, None, 0, 0),
            (0, 0, 1, "?", None, 0, 0), (0, 0, 1, None, None, 0, 0, 0), (0, 0, 1, None, None, 0, 2)]
    return [(value, errors.BadSchedule()) for value in bad]


SCHEDULE_PATTERN = ((0, 5), (2,))


def wrong_orders():
    """Values that are not orders of two tasks."""
    bad = [value for value in ANY_VALUES if not same(value, (0, 1))] + [(False, 1), (0, True), (1, False)]
    return bad + [(0, 0), (1, 1), (0, 2), (1, 2), (-1, 0), (0, 1, 1), (0, 1, 2), (0,), (0, "1"), (0, None), [0, 1],
                  [1, 0], ((0, 1),), {0: 0, 1: 1}, "01"]


def wrong_policies():
    """Values that are not policies for two tasks."""
    bad = [value for value in ANY_VALUES if value not in (("deadline",), ("slack",))]
    bad += [(word, order) for word in ("fixed", "whole") for order in wrong_orders()]
    bad += [(word, (0, 1)) for word in ("deadline", "slack", "whole deadline", "", "Fixed", True, None, (), [])]
    bad += [("fixed", (0, 1), 0), ("fixed", (0, 1), (0, 1)), ("whole", (0, 1), None), ("whole",), ("fixed",),
            ("deadline", None), ("deadline", ()), ("Deadline",), (("deadline",),), ("whole  deadline",),
            ("wholedeadline",), ("whole", "deadline"), ["deadline"], ["fixed", (0, 1)], "fixed", "slack",
            (["deadline"],), ({},)]
    return bad


def wrong_indexes(many):
    """Values that are not indexes below the number."""
    bad = [value for value in ANY_VALUES if isinstance(value, bool) or not isinstance(value, int)]
    return bad + [-1, many, many + 1, 10 ** 30]


def wrong_lengths(high):
    """Values that are not integers from 0 to high."""
    bad = [value for value in ANY_VALUES if isinstance(value, bool) or not isinstance(value, int)]
    return bad + [-1, high + 1, 10 ** 30, -10 ** 30]


def wrong_numbers(low, high):
    """Values that are not integers from low to high."""
    bad = [value for value in ANY_VALUES if isinstance(value, bool) or not isinstance(value, int)]
    return bad + [low - 1, high + 1, 10 ** 30, -10 ** 30, [low], (low,), str(low)]


def wrong_things(make, good, bad, most, least=1):
    """Pairs of a value that is not a tuple of so many good things and its error; `bad` has things that are not good."""
    rows = [(value, make(None)) for value in ANY_VALUES if not isinstance(value, tuple)]
    rows += [((good,) * (most + 1), make(None)), ((None,) * (most + 1), make(None)), ([good], make(None)),
             ({0: good}, make(None))]
    if least > 0:
        rows.append(((), make(None)))
    for value in bad:
        rows.append(((value,), make(0)))
        rows.append(((good,) * (most - 1) + (value,), make(most - 1)))
        if most > 2:
            rows.append(((good, value, None), make(1)))
    return rows


def is_whole(value, low, high):
    return type(value) is int and low <= value <= high


def other_kinds(fits):
    """The values of all kinds that are not what fits."""
    return [value for value in ANY_VALUES if not fits(value)]


def is_pair_of(value, *ranges):
    """A tuple with one integer in each of the ranges."""
    return type(value) is tuple and len(value) == len(ranges) and all(is_whole(entry, low, high) for entry, (low, high)
                                                                      in zip(value, ranges))


def wrong_pair_jobs(errors):
    """Pairs of a value that is not equal jobs, or unit jobs, and its error."""
    bad = other_kinds(lambda value: is_pair_of(value, (0, 100), (0, 100)))
    bad += [(-1, 5), (0, 101), (101, 0), (5, -1), (0, True), (False, 5), (0, None), (0, 5, 5), (0, "5"), [0, 5],
            (0, (5,)), ((0, 5),)]
    return wrong_things(errors.BadJobs, (0, 9), bad, 8)


def wrong_long_jobs(errors):
    """Pairs of a value that is not long jobs and its error."""
    bad = other_kinds(lambda value: is_pair_of(value, (0, 100), (1, 20), (0, 100)))
    bad += [(-1, 2, 5), (101, 2, 5), (0, 0, 5), (0, 21, 50), (0, 2, -1), (0, 2, 101), (False, 2, 5), (0, True, 5),
            (0, 2, True), (0, 2), (0, 2, 5, 5), [0, 2, 5], (0, 2, None), (0, "2", 5), (0, 2, [5]), (0, (2,), 5)]
    return wrong_things(errors.BadJobs, (0, 2, 90), bad, 7)


def wrong_pairs(errors):
    """Pairs of a value that is not pairs (cost, gap) and its error."""
    bad = other_kinds(lambda value: is_pair_of(value, (1, 12), (1, 12)) and value[0] <= value[1])
    bad += [(0, 5), (13, 13), (5, 13), (6, 5), (1, 0), (True, 5), (1, True), (1, None), (1, 5, 5), [1, 5], (1, "5"),
            (-1, 5), (1, 5, None)]
    return wrong_things(errors.BadPairs, (1, 12), bad, 4)


def wrong_links(errors):
    """Pairs of a value that is not links for three jobs and its error."""
    bad = other_kinds(lambda value: is_pair_of(value, (0, 2), (0, 2)) and value[0] != value[1])
    bad += [(0, 0), (2, 2), (0, 3), (3, 0), (-1, 0), (0, -1), (0, True), (False, 1), (0, None), (0, 1, 2), [0, 1],
            (0, "1"), ((0, 1),)]
    rows = wrong_things(errors.BadLinks, (0, 2), bad, 12, least=0)
    rows += [(((0, 1), (1, 0)), errors.BadLinks(None)), (((0, 1), (1, 2), (2, 0)), errors.BadLinks(None)),
             (((0, 1), (0, 1), (2, 1), (1, 2)), errors.BadLinks(None)), (((0, 1), (1, 0), (3, 0)), errors.BadLinks(2)),
             (((0, 1), (1, 0), (1, 1)), errors.BadLinks(2)), (((0, 1),) * 13, errors.BadLinks(None))]
    return rows


def wrong_length_rows(errors):
    """Pairs of a value that is not lengths and its error."""
    bad = [value for value in ANY_VALUES
           if type(value) is not tuple or not value or not all(is_whole(entry, 1, 100) for entry in value)]
    bad += [(1,) * 9, (0,), (101,), (5, 0), (5, True), (5, None), (5, "5"), (5, (5,)), [5, 5], (5, -1)]
    return [(value, errors.BadLengths()) for value in bad]


def wrong_machines(errors):
    """Pairs of a value that is not a number of machines and its error."""
    return [(value, errors.BadMachines()) for value in wrong_numbers(1, 4)]


# Random arguments. Every test makes its own generator from a fixed number, so that each run is the same.

def random_task(rng, most_cost=6, most_gap=12, most_deadline=14):
    return (rng.randint(1, most_cost), rng.randint(1, most_deadline), rng.randint(1, most_gap))


def random_tasks(rng, most=4, **limits):
    return tuple(random_task(rng, **limits) for _ in range(rng.randint(1, most)))


def random_pattern(rng, tasks, most=5, spread=6):
    rows = []
    for _, _, gap in tasks:
        time = rng.randint(0, spread)
        row = []
        for _ in range(rng.randint(0, most)):
            if time > 100:
                break
            row.append(time)
            time += gap + rng.choice((0, 0, 1, rng.randint(0, spread)))
        rows.append(tuple(row))
    return tuple(rows)


def random_order(rng, tasks):
    order = list(range(len(tasks)))
    rng.shuffle(order)
    return tuple(order)


def all_policies(order):
    return [("fixed", order), ("deadline",), ("slack",), ("whole", order), ("whole deadline",)]


# The oracles.

class Job:
    """One job of a pattern, with what it still needs."""

    def __init__(self, task, number, arrival, cost, deadline):
        self.task, self.number, self.arrival, self.left = task, number, arrival, cost
        self.due, self.begun, self.finish = arrival + deadline, False, None


def jobs_of(tasks, pattern):
    return [Job(task, number, arrival, tasks[task][0], tasks[task][1])
            for task, row in enumerate(pattern) for number, arrival in enumerate(row)]


def run_jobs(jobs, policy, until=None):
    """Runs the jobs unit by unit as point 3 says; returns the list of the jobs that ran, with None for idle units."""
    ran = []
    open_jobs = sorted(jobs, key=lambda job: (job.arrival, job.task))
    time = 0
    while open_jobs and (until is None or time < until):
        first = {}
        for job in open_jobs:
            if job.arrival > time:
                break
            first.setdefault(job.task, job)
        ready = list(first.values())
        if policy[0].startswith("whole") and any(job.begun for job in ready):
            ready = [job for job in ready if job.begun]
        best = None
        for job in ready:
            if policy[0] in ("fixed", "whole"):
                key = (policy[1].index(job.task), 0)
            elif policy[0] == "slack":
                key = (job.due - time - job.left, job.task)
            else:
                key = (job.due, job.task)
            if best is None or key < best[0]:
                best = (key, job)
        ran.append(None if best is None else best[1])
        if best is not None:
            job = best[1]
            job.begun = True
            job.left -= 1
            if job.left == 0:
                job.finish = time + 1
                open_jobs.remove(job)
        time += 1
    return ran


def oracle_schedule(tasks, pattern, policy):
    return tuple(None if job is None else job.task for job in run_jobs(jobs_of(tasks, pattern), policy))


def oracle_runs(tasks, pattern, policy):
    runs = []
    for unit, job in enumerate(run_jobs(jobs_of(tasks, pattern), policy)):
        if job is not None:
            if runs and runs[-1][1] == unit and runs[-1][2:] == [job.task, job.number]:
                runs[-1][1] = unit + 1
            else:
                runs.append([unit, unit + 1, job.task, job.number])
    return tuple(tuple(run) for run in runs)


def oracle_finishes(tasks, pattern, policy):
    jobs = jobs_of(tasks, pattern)
    run_jobs(jobs, policy)
    rows = [[] for _ in tasks]
    for job in jobs:
        rows[job.task].append(job.finish)
    return tuple(tuple(row) for row in rows)


def plain_schedule(tasks, pattern, value):
    """Point 4, clause by clause, over jobs instead of counts."""
    if type(value) is not tuple:
        return False
    jobs = jobs_of(tasks, pattern)
    for unit, entry in enumerate(value):
        if entry is None:
            continue
        if type(entry) is not int:
            return False
        fitting = [job for job in jobs if job.task == entry and job.arrival <= unit and job.left > 0]
        if not fitting:
            return False
        fitting[0].left -= 1
    return all(job.left == 0 for job in jobs) and (value == () or value[-1] is not None)


def random_schedule(rng, tasks, pattern, idle):
    """A schedule of any policy or of none: in each unit some job runs that is there, or none with this chance."""
    jobs = jobs_of(tasks, pattern)
    units = []
    while any(job.left for job in jobs):
        there = [job.task for job in jobs if job.left and job.arrival <= len(units)]
        task = None if not there or rng.random() < idle else rng.choice(there)
        if task is not None:
            [job for job in jobs if job.task == task and job.left][0].left -= 1
        units.append(task)
    return tuple(units)


def bent_schedule(rng, units):
    """The tuple of units with some entries exchanged."""
    row = list(units)
    for _ in range(rng.randint(0, 2)):
        if len(row) > 1:
            one, other = rng.sample(range(len(row)), 2)
            row[one], row[other] = row[other], row[one]
    return tuple(row)


def rate(tasks):
    return sum(Fraction(cost, gap) for cost, _, gap in tasks)


def oracle_length(extra, tasks, most=20000):
    """The least positive length of points 6, 8 and 11, by trying all of them; None if there is none."""
    if rate(tasks) > 1 or (rate(tasks) == 1 and extra > 0):
        return None
    for length in range(1, most + 1):
        if extra + sum(cost * (length // gap + (length % gap > 0)) for cost, _, gap in tasks) <= length:
            return length
    return most + 1


def multiples(tasks, stop, starts=None):
    """The pattern with arrivals at the starts and at all multiples of the gaps behind them, before stop."""
    starts = [0] * len(tasks) if starts is None else starts
    return tuple(tuple(range(start, stop, gap)) for start, (_, _, gap) in zip(starts, tasks))


def hyper(tasks):
    return lcm(*[gap for _, _, gap in tasks])


def rng_of(number):
    return random.Random(number)


def wait_free_end(jobs, done, time):
    """Whether the long jobs that are not done can all run in time from now on without the machine ever waiting."""
    left = [job for job in range(len(jobs)) if job not in done]
    if not left:
        return True
    time = max(time, min(jobs[job][0] for job in left))
    return any(wait_free_end(jobs, done + [job], time + jobs[job][1]) for job in left
               if jobs[job][0] <= time and time + jobs[job][1] <= jobs[job][2])


def some_order_fits(jobs, done=(), time=0):
    """Whether the long jobs can all run in time without interruption, by trying all orders."""
    left = [job for job in range(len(jobs)) if job not in done]
    return not left or any(some_order_fits(jobs, (*done, job), max(time, jobs[job][0]) + jobs[job][1]) for job in left
                           if max(time, jobs[job][0]) + jobs[job][1] <= jobs[job][2])


def random_long_jobs(rng, most=7, most_length=6, spread=16, slack=10):
    jobs = []
    for _ in range(rng.randint(1, most)):
        arrival, length = rng.randint(0, spread), rng.randint(1, most_length)
        jobs.append((arrival, length, min(100, arrival + length + rng.randint(-1, slack))))
    return tuple((arrival, length, max(0, due)) for arrival, length, due in jobs)


def bent_tuples(rng, value, many=20, numbers=(-2, -1, 1, 2, 7)):
    """Tuples like the value of integers and of tuples of integers, each changed in one place."""
    rows = [value[:-1], value[1:], value + value[:1], value + (0,), value + (None,), list(value), (value,)]
    for _ in range(many):
        rows.append(bent(rng, value, numbers))
    return rows


def bent(rng, value, numbers):
    """The value with one entry, however deep inside, cut, doubled, exchanged or changed to another one."""
    if type(value) is not tuple or not value:
        if type(value) is int and rng.random() < 0.8:
            return value + rng.choice(numbers)
        return rng.choice((None, True, False, "0", (), 0, 1, []))
    place = rng.randrange(len(value))
    kind = rng.random()
    if kind < 0.6:
        return value[:place] + (bent(rng, value[place], numbers),) + value[place + 1:]
    if kind < 0.7:
        return value[:place] + value[place + 1:]
    if kind < 0.8:
        return value[:place] + (value[place],) + value[place:]
    other = rng.randrange(len(value))
    row = list(value)
    row[place], row[other] = row[other], row[place]
    return tuple(row)


# Locked tasks.

def sections_fit(cost, sections):
    """What point 16 says of the sections of one task, unit by unit."""
    if list(sections) != sorted(sections) or len(sections) > 4:
        return False
    for place, (start, length, lock) in enumerate(sections):
        if start < 0 or length < 1 or start + length > cost or not 0 <= lock <= 3:
            return False
        units = set(range(start, start + length))
        for other_start, other_length, other_lock in sections[:place]:
            other_units = set(range(other_start, other_start + other_length))
            if units & other_units:
                if not (units <= other_units or other_units <= units) or lock == other_lock or length == other_length:
                    return False
    return True


def random_sections(rng, cost, locks=4, most=4):
    """Sections that can stand in a task of this cost, with sections inside others."""
    sections = []
    for _ in range(rng.randint(0, 3 * most)):
        start = rng.randint(0, cost - 1)
        if sections and rng.random() < 0.3:
            start = rng.choice(sections)[0]
        more = (start, rng.randint(1, cost - start), rng.randint(0, locks - 1))
        if len(sections) < most and sections_fit(cost, tuple(sorted([*sections, more]))):
            sections.append(more)
    return tuple(sorted(sections))


def random_locked(rng, most=4, most_cost=6, most_gap=16, locks=4, most_sections=4):
    tasks = []
    for _ in range(rng.randint(1, most)):
        cost = rng.randint(1, most_cost)
        tasks.append((cost, rng.randint(1, most_gap), random_sections(rng, cost, locks, most_sections)))
    return tuple(tasks)


def locked_as_tasks(tasks):
    return tuple((cost, gap, gap) for cost, gap, _ in tasks)


def random_ring_locked(rng, most=4, locks=2):
    """Locked tasks in which sections of few locks stand inside each other in several orders."""
    tasks = []
    for _ in range(rng.randint(2, most)):
        cost = rng.randint(3, 7)
        start = rng.randint(0, cost - 3)
        begin = rng.randint(start + 1, cost - 2)
        one, other = rng.sample(range(locks), 2)
        sections = ((start, cost - start, one), (begin, rng.randint(1, cost - begin), other))
        if rng.random() < 0.3:
            sections = random_sections(rng, cost, locks)
        tasks.append((cost, rng.randint(6, 20), sections))
    return tuple(tasks)


class LockedJob:
    """One job of a locked task."""

    def __init__(self, task, number, arrival, cost, sections):
        self.task, self.number, self.arrival, self.cost, self.sections = task, number, arrival, cost, sections
        self.done, self.finish, self.blocked, self.first_unit = 0, None, [], None

    def holds(self):
        return {lock for start, length, lock in self.sections if start + 1 <= self.done <= start + length - 1}

    def must_take(self):
        return {lock for start, _, lock in self.sections if start == self.done}


def plain_ceiling(tasks, lock):
    found = [task for task, (_, _, sections) in enumerate(tasks) if lock in [row[2] for row in sections]]
    return min(found, default=None)


def in_the_way(tasks, protocol, job, other):
    """Whether the other job holds a lock that keeps the job from running, as point 17 says."""
    locks = other.holds()
    if protocol in ("plain", "inherit"):
        return bool(locks & job.must_take())
    if protocol == "ceiling":
        return bool(job.must_take()) and any(plain_ceiling(tasks, lock) <= job.task for lock in locks)
    return job.done == 0 and any(plain_ceiling(tasks, lock) <= job.task for lock in locks)


def current_priority(tasks, protocol, job, waits):
    """The current priority of a job; `waits` has the pairs (job, other) of which the first one waits for the other."""
    if protocol == "stack":
        return min([job.task] + [plain_ceiling(tasks, lock) for lock in job.holds()])
    reached = [job]
    if protocol != "plain":
        for known in reached:
            reached += [one for one, other in waits if other is known and one not in reached]
    return min(one.task for one in reached)


def run_locked_jobs(tasks, pattern, protocol):
    """The jobs, each with its finish and the tasks that ran in the units that block it, and what ran in each unit."""
    jobs = [LockedJob(task, number, arrival, tasks[task][0], tasks[task][2])
            for task, row in enumerate(pattern) for number, arrival in enumerate(row)]
    ran = []
    unit = 0
    while True:
        left = [job for job in jobs if job.finish is None]
        ready = [job for job in left if job.arrival <= unit
                 and not any(other.task == job.task and other.number < job.number for other in left)]
        waits = [(job, other) for job in ready for other in ready
                 if other is not job and in_the_way(tasks, protocol, job, other)]
        may = [job for job in ready if not any(one is job for one, _ in waits)]
        if not may and not any(job.arrival > unit for job in left):
            break
        best = None
        for job in may:
            key = (current_priority(tasks, protocol, job, waits), protocol == "stack" and job.done == 0, job.task)
            if best is None or key < best[0]:
                best = (key, job)
        ran.append(None if best is None else best[1].task)
        if best is not None:
            runner = best[1]
            for job in ready:
                if job.task < runner.task:
                    job.blocked.append(runner.task)
            if runner.done == 0:
                runner.first_unit = unit
            runner.done += 1
            if runner.done == runner.cost:
                runner.finish = unit + 1
        unit += 1
    while ran and ran[-1] is None:
        ran.pop()
    return jobs, tuple(ran)


def wrong_locked(errors):
    """Pairs of a value that is not locked tasks and its error."""
    bad = [value for value in ANY_VALUES]
    bad += [(0, 5, ()), (21, 5, ()), (5, 0, ()), (5, 61, ()), (True, 5, ()), (5, True, ()), (5, 5, None), (5, 5),
            (5, 5, [], ()), (5, 5, []), (5, 5, (), ()), [5, 5, ()], (5, "5", ()), (None, 5, ()), (5, 5, 0), (5, 5, "")]
    for sections in ([(0, 1, 0)], ((0, 1),), ((0, 1, 4),), ((0, 1, -1),), ((-1, 1, 0),), ((0, 0, 0),), ((0, 6, 0),),
                     ((5, 1, 0),), ((4, 2, 0),), ([0, 1, 0],), (0, 1, 0), (None,), ((False, 1, 0),), ((0, True, 0),),
                     ((0, 1, True),), ((0, 1, 0, 0),), ((0, 1, None),), ((0, "1", 0),), ((10 ** 30, 1, 0),),
                     # Not ascending.
                     ((1, 1, 0), (0, 1, 1)), ((0, 3, 0), (0, 2, 1)), ((2, 1, 0), (0, 1, 0)), ((0, 2, 1), (0, 1, 0)),
                     # They overlap, but none is inside the other.
                     ((0, 2, 0), (1, 2, 1)), ((0, 3, 0), (2, 3, 1)), ((0, 1, 0), (0, 4, 1), (3, 2, 2)),
                     # Inside with the same lock; equally long.
                     ((0, 3, 0), (1, 1, 0)), ((0, 2, 0), (0, 3, 0)), ((0, 2, 0), (0, 2, 1)), ((0, 2, 0), (0, 2, 0)),
                     ((0, 5, 0), (1, 3, 1), (2, 1, 0)), ((0, 1, 0), (0, 1, 1)),
                     # Five sections.
                     ((0, 1, 0), (1, 1, 0), (2, 1, 0), (3, 1, 0), (4, 1, 0))):
        bad.append((5, 5, sections))
    return wrong_things(errors.BadLocked, (5, 5, ((0, 5, 0), (1, 2, 1))), bad, 5)


# The costs and gaps are those of PATTERN_TASKS.
LOCKED_TASKS = ((2, 5, ((0, 2, 1),)), (1, 1, ()))


# Jobs that may be interrupted, and links.

def plain_units(jobs, value):
    """What point 21 says of a schedule by units, job by job."""
    if type(value) is not tuple or not value or value[-1] is None:
        return False
    if any(entry is not None and not is_whole(entry, 0, len(jobs) - 1) for entry in value):
        return False
    for job, (arrival, length, due) in enumerate(jobs):
        places = [unit for unit, entry in enumerate(value) if entry == job]
        if len(places) != length or places[0] < arrival or places[-1] >= due:
            return False
    return True


def units_exist(jobs, machines=1, links=()):
    """Whether the jobs can run in time on so many machines, by trying all ways to fill the units; for few small jobs.

    With links a job begins only when all jobs in front of it are finished.
    """
    known = {}

    def fits(unit, left):
        if not any(left):
            return True
        if any(need > max(0, due - max(unit, arrival)) for need, (arrival, _, due) in zip(left, jobs)):
            return False
        if (unit, left) not in known:
            ready = [job for job, need in enumerate(left) if need and jobs[job][0] <= unit
                     and not any(after == job and left[before] for before, after in links)]
            picks = combinations(ready, min(machines, len(ready)))
            known[unit, left] = any(fits(unit + 1, tuple(need - (job in pick) for job, need in enumerate(left)))
                                    for pick in picks)
        return known[unit, left]

    return fits(0, tuple(length for _, length, _ in jobs))


def random_links(rng, many, most=5):
    """Links without a ring: they follow a random order of the jobs."""
    order = rng.sample(range(many), many)
    if many == 1:
        return ()
    pairs = []
    for _ in range(rng.randint(0, most)):
        one, other = sorted(rng.sample(range(many), 2))
        pairs.append((order[one], order[other]))
    return tuple(pairs)
