"""Points 42 and 44: traces with unknown units, and the schedule that is nearest to a row."""

import unittest
from itertools import product

from eventcore import errors
from eventcore.filling import fillings, joined, nearest_schedule, possible_entries
from eventcore.simulation import simulate
from support import (ANY_VALUES, PATTERN_TASKS, SCHEDULE_PATTERN, Checks, all_policies, bent_schedule, plain_schedule,
                     random_order, random_pattern, random_schedule, random_tasks, rng_of, same, wrong_patterns,
                     wrong_tasks)


def all_fillings(tasks, pattern, trace):
    """By trying all entries for all unknown units."""
    places = [unit for unit, entry in enumerate(trace) if entry == "?"]
    found = []
    for entries in product([*range(len(tasks)), None], repeat=len(places)):
        row = list(trace)
        for unit, entry in zip(places, entries):
            row[unit] = entry
        if plain_schedule(tasks, pattern, tuple(row)):
            found.append(tuple(row))
    return found


def plain_entries(many, found):
    if not found:
        return None
    return tuple(tuple(entry for entry in [*range(many), None] if any(same(row[unit], entry) for row in found))
                 for unit in range(len(found[0])))


def hidden(rng, units, most):
    """The units with at most so many of them unknown."""
    row = list(units)
    for unit in rng.sample(range(len(row)), min(len(row), rng.randint(0, most))):
        row[unit] = "?"
    return tuple(row)


def wrong_traces(errors, unknown):
    """Pairs of a value that is no trace, or row, for two tasks and its error; so many entries may be unknown."""
    def fits(value):
        return value is None or (type(value) is int and value in (0, 1)) or (unknown > 0 and value == "?")

    rows = [(value, errors.BadTrace(None)) for value in ANY_VALUES if type(value) is not tuple]
    rows += [((), errors.BadTrace(None)), ((0,) * 61, errors.BadTrace(None)), ((5,) * 61, errors.BadTrace(None)),
             ([0, 1], errors.BadTrace(None)), ("?", errors.BadTrace(None)), ({0: 1}, errors.BadTrace(None))]
    for value in [*ANY_VALUES, "??", "? ", -1, 2, True, False, ("?",), ["?"]]:
        if not fits(value):
            rows += [((value,), errors.BadTrace(0)), ((0, None, value, value), errors.BadTrace(2)),
                     ((None,) * 59 + (value,), errors.BadTrace(59))]
    rows += [(("?",) * (unknown + 1), errors.BadTrace(unknown)), (("?",) * 60, errors.BadTrace(unknown)),
             ((0,) + ("?",) * unknown + (None, "?"), errors.BadTrace(unknown + 2)),
             ((None,) * 48 + ("?",) * unknown + ("?", 7), errors.BadTrace(48 + unknown)),
             ((7,) + ("?",) * 11, errors.BadTrace(0)), (("?",) * unknown + (7, "?"), errors.BadTrace(unknown))]
    return rows


class FillingsTest(Checks, unittest.TestCase):
    def check(self, tasks, pattern, trace):
        found = all_fillings(tasks, pattern, trace)
        self.assert_same(self.assert_steady(fillings, tasks, pattern, trace), len(found))
        entries = self.assert_steady(possible_entries, tasks, pattern, trace)
        self.assert_same(entries, plain_entries(len(tasks), found))
        return len(found)

    def test_example(self):
        tasks, pattern, trace = ((2, 5, 5), (1, 4, 3)), ((0,), (1, 4)), ("?", "?", "?", None, 1)
        answers = [fillings(tasks, pattern, trace), possible_entries(tasks, pattern, trace)]
        self.assert_same(answers, [2, ((0,), (0, 1), (0, 1), (None,), (1,))])

    def test_random_traces(self):
        rng = rng_of(420)
        counts = {}
        for _ in range(400):
            tasks = random_tasks(rng, most=3, most_cost=3)
            pattern = random_pattern(rng, tasks, most=2)
            units = random_schedule(rng, tasks, pattern, rng.choice((0, 0.2)))
            if not 1 <= len(units) <= 60:
                continue
            trace = hidden(rng, bent_schedule(rng, units), 5)
            many = self.check(tasks, pattern, trace)
            key = "none" if not many else "one" if many == 1 else "some"
            counts[key] = counts.get(key, 0) + 1
        self.assertGreater(min(counts.values()), 30)
        self.assertEqual(len(counts), 3)

    def test_traces_of_six_tasks(self):
        rng = rng_of(421)
        for _ in range(40):
            tasks = random_tasks(rng, most=6, most_cost=2)
            pattern = random_pattern(rng, tasks, most=2)
            units = random_schedule(rng, tasks, pattern, 0.1)
            if 1 <= len(units) <= 60:
                self.check(tasks, pattern, hidden(rng, units, 3))

    def test_ten_and_eleven_unknown(self):
        tasks, pattern = ((2, 9, 9), (3, 9, 9)), ((0,), (0,))
        # 10 units for 5 of them, the last one among these: 9 choose 4, times 5 choose 2.
        trace = ("?",) * 10
        self.assert_same(fillings(tasks, pattern, trace), 126 * 10)
        self.assert_same(possible_entries(tasks, pattern, trace), ((0, 1, None),) * 9 + ((0, 1),))
        for call in (fillings, possible_entries):
            self.assert_error(errors.BadTrace(10), call, tasks, pattern, ("?",) * 11)
            self.assert_error(errors.BadTrace(12), call, tasks, pattern, (0, None) + ("?",) * 11)
        self.assert_same(fillings(tasks, pattern, trace + (0,)), 10 * 9 * 8 * 7 // 6)
        # As many unknown units as may be, of six tasks and a long trace.
        tasks = ((10, 60, 60),) * 6
        pattern = ((0,),) * 6
        trace = ("?",) * 10 + tuple(task for task in range(6) for _ in range(10))[10:]
        self.assert_same(fillings(tasks, pattern, trace), 1)
        self.assert_same(possible_entries(tasks, pattern, trace), tuple((entry,) for entry in (0,) * 10 + trace[10:]))
        trace = ("?",) * 10 + (0,) * 9 + (1,) * 8 + (2,) * 8 + (3,) * 8 + (4,) * 8 + (5,) * 9
        ways = 10 * 9 * 8 * 7 * 6 * 5 * 4 * 3 * 2 // (2 * 2 * 2 * 2)
        self.assert_same(fillings(tasks, pattern, trace), ways)
        self.assert_same(possible_entries(tasks, pattern, trace)[:10], ((0, 1, 2, 3, 4, 5),) * 10)

    def test_small_cases(self):
        tasks, pattern = ((2, 5, 5), (1, 4, 3)), ((0,), (1, 4))
        # A complete trace is its own filling, or has none.
        self.assert_same(fillings(tasks, pattern, (0, 0, 1, None, 1)), 1)
        self.assert_same(possible_entries(tasks, pattern, (0, 0, 1, None, 1)), ((0,), (0,), (1,), (None,), (1,)))
        self.assert_same(fillings(tasks, pattern, (0, 0, 1, 1, None)), 0)
        self.assert_same(possible_entries(tasks, pattern, (0, 0, 1, 1, None)), None)
        # It must have the length of the trace, and does not end with an idle unit.
        self.assert_same(fillings(tasks, pattern, (0, 0, 1, None, "?", "?")), 1)
        self.assert_same(possible_entries(tasks, pattern, (0, 0, 1, None, "?", "?")),
                         ((0,), (0,), (1,), (None,), (None,), (1,)))
        self.assert_same(fillings(tasks, pattern, (0, 0, 1, "?", "?", "?", None)), 0)
        self.assert_same(fillings(tasks, pattern, ("?",) * 3), 0)
        self.assert_same(fillings(tasks, ((), ()), ("?",)), 0)
        self.assert_same(possible_entries(tasks, ((), ()), (None,)), None)
        self.assert_same(fillings(tasks, ((), (60,)), (None,) * 59 + ("?",)), 0)
        self.assert_same(fillings(tasks, ((), (59,)), (None,) * 59 + ("?",)), 1)

    def test_wrong_arguments(self):
        rows = wrong_traces(errors, 10)
        for call in (fillings, possible_entries):
            self.assert_wrong_arguments(call, (PATTERN_TASKS, SCHEDULE_PATTERN, (0, "?")),
                                        [wrong_tasks(errors), wrong_patterns(errors), rows])


class JoinedTest(Checks, unittest.TestCase):
    def test_small_cases(self):
        tasks = ((1, 5, 5),) * 3
        self.assert_same(joined(tasks, (0, "?", "?", None), ("?", 1, "?", None)), ("trace", (0, 1, "?", None)))
        self.assert_same(joined(tasks, (0, "?", 2), (0, 1, 1)), ("conflict", 2))
        self.assert_same(joined(tasks, (0, 1), (1, 0)), ("conflict", 0))
        self.assert_same(joined(tasks, (0, 1), (0, None)), ("conflict", 1))
        self.assert_same(joined(tasks, (None,), (0,)), ("conflict", 0))
        self.assert_same(joined(tasks, ("?",), (None,)), ("trace", (None,)))
        self.assert_same(joined(tasks, (2,), ("?",)), ("trace", (2,)))
        self.assert_same(joined(tasks, ("?",) * 10, ("?",) * 10), ("trace", ("?",) * 10))
        self.assert_same(joined(tasks, ("?",) * 10 + (0,) * 50, (0,) * 50 + ("?",) * 10), ("trace", (0,) * 60))

    def test_random_traces(self):
        rng = rng_of(422)
        counts = {}
        for _ in range(300):
            size = rng.randint(1, 10)
            base = tuple(rng.choice((0, 1, 2, None)) for _ in range(size))
            one, other = hidden(rng, base, 10), hidden(rng, base, 10)
            if rng.random() < 0.7:
                unit = rng.randrange(size)
                other = other[:unit] + (rng.choice((0, 1, 2, None)),) + other[unit + 1:]
            wanted = ("trace", tuple(b if a == "?" else a for a, b in zip(one, other)))
            for unit in reversed(range(size)):
                if "?" not in (one[unit], other[unit]) and not same(one[unit], other[unit]):
                    wanted = ("conflict", unit)
            for pair in ((one, other), (other, one)):
                self.assert_same(self.assert_steady(joined, ((1, 5, 5),) * 3, *pair), wanted)
            counts[wanted[0]] = counts.get(wanted[0], 0) + 1
        self.assertGreater(min(counts.values()), 50)
        self.assertEqual(len(counts), 2)

    def test_fillings_of_joined_traces(self):
        rng = rng_of(423)
        for _ in range(80):
            tasks = random_tasks(rng, most=3, most_cost=2)
            pattern = random_pattern(rng, tasks, most=2)
            units = random_schedule(rng, tasks, pattern, 0.1)
            if 1 <= len(units) <= 60:
                one, other = hidden(rng, units, 4), hidden(rng, units, 4)
                both = [row for row in all_fillings(tasks, pattern, one) if row in all_fillings(tasks, pattern, other)]
                word, trace = joined(tasks, one, other)
                self.assertEqual(word, "trace")
                self.assertEqual(fillings(tasks, pattern, trace), len(both))

    def test_wrong_arguments(self):
        rows = wrong_traces(errors, 10)
        self.assert_wrong_arguments(joined, (PATTERN_TASKS, (0, "?"), ("?", 1)), [wrong_tasks(errors), rows, rows])
        for one, other in (((0,), (0, 1)), ((0, 1), (0,)), (("?",) * 5, ("?",) * 6), ((0, 1), (1,))):
            self.assert_error(errors.BadLength(), joined, PATTERN_TASKS, one, other)
        # A trace that is not allowed comes first, whatever its length.
        self.assert_error(errors.BadTrace(1), joined, PATTERN_TASKS, (0,), (0, 7))
        self.assert_error(errors.BadTrace(None), joined, PATTERN_TASKS, (0,), ())


def fewest_changes(tasks, pattern, row):
    """The fewest units in which a schedule of this length differs from the row, by all that can be done before each.

    What is done is counted job by job: the numbers of units that each job has run.
    """
    reached = {tuple((0,) * len(arrivals) for arrivals in pattern): 0}
    for unit, entry in enumerate(row):
        further = {}
        for done, changes in reached.items():
            choices = [(None, done)]
            for task, counts in enumerate(done):
                for number, count in enumerate(counts):
                    if count < tasks[task][0]:
                        if pattern[task][number] <= unit:
                            changed = counts[:number] + (count + 1,) + counts[number + 1:]
                            choices.append((task, done[:task] + (changed,) + done[task + 1:]))
                        break
            for task, after in choices:
                if task is None and unit == len(row) - 1:
                    continue
                total = changes + (not same(task, entry))
                further[after] = min(further.get(after, total), total)
        reached = further
    everything = tuple((tasks[task][0],) * len(arrivals) for task, arrivals in enumerate(pattern))
    return reached.get(everything)


class NearestTest(Checks, unittest.TestCase):
    def check(self, tasks, pattern, row, changes):
        found = self.assert_steady(nearest_schedule, tasks, pattern, row)
        if changes is None:
            self.assert_same(found, None)
            return
        self.assertIs(type(found), tuple)
        self.assertEqual(len(found), 2)
        self.assert_same(found[0], changes)
        self.assertEqual(len(found[1]), len(row))
        self.assertTrue(plain_schedule(tasks, pattern, found[1]), (tasks, pattern, row, found))
        self.assertEqual(sum(not same(one, other) for one, other in zip(row, found[1])), changes)

    def test_random_rows(self):
        rng = rng_of(440)
        counts = {}
        for _ in range(400):
            tasks = random_tasks(rng, most=3, most_cost=3)
            pattern = random_pattern(rng, tasks, most=2)
            units = random_schedule(rng, tasks, pattern, rng.choice((0, 0.2)))
            row = list(bent_schedule(rng, units))
            for _ in range(rng.choice((0, 1, 4, 12))):
                if row:
                    row[rng.randrange(len(row))] = rng.choice([*range(len(tasks)), None])
            if rng.random() < 0.3:
                row = (row + [rng.choice([*range(len(tasks)), None]) for _ in range(3)])[:rng.randint(1, len(row) + 3)]
            if not 1 <= len(row) <= 60:
                continue
            changes = fewest_changes(tasks, pattern, tuple(row))
            self.check(tasks, pattern, tuple(row), changes)
            key = min(changes, 3) if changes is not None else None
            counts[key] = counts.get(key, 0) + 1
        self.assertEqual(set(counts), {None, 0, 1, 2, 3})
        self.assertGreater(min(counts.values()), 15)

    def test_rows_of_one_entry(self):
        rng = rng_of(441)
        for _ in range(60):
            tasks = random_tasks(rng, most=3, most_cost=3)
            pattern = random_pattern(rng, tasks, most=2)
            for entry in (None, 0, len(tasks) - 1):
                row = (entry,) * rng.randint(1, 30)
                self.check(tasks, pattern, row, fewest_changes(tasks, pattern, row))

    def test_all_rows_of_a_small_pattern(self):
        tasks, pattern = ((2, 5, 3), (1, 4, 3)), ((0,), (1, 4))
        for size in range(1, 8):
            for row in product((0, 1, None), repeat=size):
                if size < 6 or row[0] == 1:
                    self.check(tasks, pattern, row, fewest_changes(tasks, pattern, row))

    def test_schedules_are_nearest_to_themselves(self):
        rng = rng_of(442)
        for _ in range(60):
            tasks = random_tasks(rng, most=6, most_cost=4)
            pattern = random_pattern(rng, tasks, most=3)
            for policy in all_policies(random_order(rng, tasks))[:3]:
                units = simulate(tasks, pattern, policy)
                if 1 <= len(units) <= 60:
                    self.assert_same(nearest_schedule(tasks, pattern, units), (0, units))

    def test_the_last_entry(self):
        tasks = ((1, 5, 5), (1, 5, 5))
        self.assert_same(nearest_schedule(tasks, ((0,), ()), (0, None)), (2, (None, 0)))
        self.assert_same(nearest_schedule(tasks, ((0,), ()), (None, None)), (1, (None, 0)))
        self.check(tasks, ((0,), (1,)), (0, 1, None), 2)
        self.check(tasks, ((0,), (0,)), (1, None, 1), 1)

    def test_wrong_lengths(self):
        tasks = ((2, 5, 5), (1, 5, 5))
        self.assert_same(nearest_schedule(tasks, ((0,), (0,)), (0, 1)), None)
        self.assert_same(nearest_schedule(tasks, ((), ()), (None,)), None)
        self.assert_same(nearest_schedule(tasks, ((), ()), (0,)), None)
        # The last job arrives too late for the row.
        self.assert_same(nearest_schedule(tasks, ((), (3,)), (None, None, None)), None)
        self.assert_same(nearest_schedule(tasks, ((), (3,)), (None,) * 4), (1, (None, None, None, 1)))
        self.assert_same(nearest_schedule(tasks, ((), (3,)), (None,) * 5), (1, (None, None, None, None, 1)))
        self.assert_same(nearest_schedule(tasks, ((98,), ()), (None,) * 60), None)

    def test_long_rows(self):
        tasks, pattern = ((10, 60, 60),) * 6, ((0,),) * 6
        turned = tuple(range(6)) * 10
        self.assert_same(nearest_schedule(tasks, pattern, turned), (0, turned))
        self.check(tasks, pattern, (0,) * 60, 50)
        self.check(tasks, pattern, (None,) * 60, 60)
        self.check(tasks, pattern, (0,) * 30 + (1,) * 30, 40)
        tasks, pattern = ((5, 60, 10), (2, 60, 4)), ((0, 10, 20, 30), (1, 5, 9, 13, 17, 21, 25, 29))
        for row in ((0,) * 50, (1,) * 45, (None,) * 60, (0, 1) * 25, (1, None, 0, 0) * 15, (1, 0, None) * 13):
            self.check(tasks, pattern, row, fewest_changes(tasks, pattern, row))

    def test_wrong_arguments(self):
        self.assert_wrong_arguments(nearest_schedule, (PATTERN_TASKS, SCHEDULE_PATTERN, (0, None)),
                                    [wrong_tasks(errors), wrong_patterns(errors), wrong_traces(errors, 0)])
        self.assert_error(errors.BadTrace(1), nearest_schedule, PATTERN_TASKS, SCHEDULE_PATTERN, (0, "?"))


if __name__ == "__main__":
    unittest.main()
