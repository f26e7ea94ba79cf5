"""Point 27: jobs that need several machines in any order."""

import unittest

from eventcore import errors
from eventcore.openshop import open_steps, shows_steps
from support import ANY_VALUES, Checks, bent_tuples, is_whole, other_kinds, rng_of, same, wrong_things


def least_total(needs):
    return max([sum(row) for row in needs] + [sum(column) for column in zip(*needs)])


def plain_steps(needs, value):
    """What point 27 says of steps, unit by unit of work."""
    if type(value) is not tuple:
        return False
    worked = {}
    total = 0
    for step in value:
        if type(step) is not tuple or len(step) != 2 or type(step[0]) is not int or step[0] <= 0:
            return False
        if type(step[1]) is not tuple or len(step[1]) != len(needs[0]):
            return False
        named = [job for job in step[1] if job is not None]
        if any(not is_whole(job, 0, len(needs) - 1) for job in named) or len(named) != len(set(named)):
            return False
        total += step[0]
        for machine, job in enumerate(step[1]):
            worked[job, machine] = worked.get((job, machine), 0) + step[0]
    if total != least_total(needs):
        return False
    return all(worked.get((job, machine), 0) == need
               for job, row in enumerate(needs) for machine, need in enumerate(row))


def random_needs(rng, most_rows=5, most_columns=4):
    rows, columns, most = rng.randint(1, most_rows), rng.randint(1, most_columns), rng.choice((1, 3, 20))
    empty = rng.choice((0, 0, 0.3, 0.7))
    return tuple(tuple(0 if rng.random() < empty else rng.randint(0, most) for _ in range(columns))
                 for _ in range(rows))


class OpenStepsTest(Checks, unittest.TestCase):
    def test_example(self):
        answers = [shows_steps(((2, 2),), ((2, (0, 0)), (2, (None, None)))),
                   shows_steps(((2, 2),), ((2, (0, None)), (2, (None, 0))))]
        self.assert_same(answers, [False, True])

    def check(self, needs):
        steps = self.assert_steady(open_steps, needs)
        self.assertTrue(plain_steps(needs, steps), (needs, steps))
        self.assertIs(shows_steps(needs, steps), True)

    def test_random_needs(self):
        rng = rng_of(270)
        counts = {}
        for _ in range(800):
            needs = random_needs(rng)
            self.check(needs)
            row, column = max(sum(row) for row in needs), max(sum(column) for column in zip(*needs))
            key = (row > column) - (row < column)
            counts[key] = counts.get(key, 0) + 1
        self.assertEqual(len(counts), 3)
        self.assertGreater(min(counts.values()), 50)

    def test_one_row_and_one_column(self):
        self.check(((3, 4, 0, 5),))
        self.check(((3,), (4,), (0,), (5,), (20,)))
        self.assert_same(open_steps(((7,),)), ((7, (0,)),))
        rng = rng_of(271)
        for _ in range(100):
            self.check(random_needs(rng, most_rows=1))
            self.check(random_needs(rng, most_columns=1))

    def test_zeros(self):
        for rows in range(1, 6):
            for columns in range(1, 5):
                needs = ((0,) * columns,) * rows
                self.assert_same(open_steps(needs), ())
                self.assertIs(shows_steps(needs, ()), True)
                self.assertIs(shows_steps(needs, ((1, (None,) * columns),)), False)
        self.check(((0, 0, 0), (5, 0, 2), (0, 0, 0)))
        self.check(((0, 5), (0, 3), (0, 0)))

    def test_rows_and_columns_that_are_all_greatest(self):
        self.check(((1, 2, 3, 4), (2, 3, 4, 1), (3, 4, 1, 2), (4, 1, 2, 3)))
        self.check(((20,) * 4,) * 5)
        self.check(((20, 0, 0, 0), (0, 20, 0, 0), (0, 0, 20, 0), (0, 0, 0, 20), (0, 0, 0, 0)))
        self.check(((7, 13), (13, 7)))
        self.check(((1, 0, 19, 0), (19, 1, 0, 0), (0, 19, 1, 0), (0, 0, 0, 20)))

    def test_wrong_arguments(self):
        bad = other_kinds(lambda value: type(value) is tuple and value and all(is_whole(need, 0, 20) for need in value))
        bad += [(0,) * 5, (21,), (-1,), (3, True), (3, None), (3, "3"), (3, (3,)), [3, 3], (3, 21), (-1, 3)]
        wrong = wrong_things(errors.BadNeeds, (3, 4), bad, 5)
        good = (3, 4)
        for value in ((3,), (3, 4, 5), (3, 4, 5, 6)):
            wrong.append(((good, value), errors.BadNeeds(1)))
            wrong.append(((value, good), errors.BadNeeds(1)))
            wrong.append(((good, good, good, value, None), errors.BadNeeds(3)))
        wrong.append((((3,), (4, 5), (21,)), errors.BadNeeds(1)))
        wrong.append((((21,), (4, 5)), errors.BadNeeds(0)))
        wrong.append(((None, (4, 5)), errors.BadNeeds(0)))
        wrong.append(((5, (4, 5)), errors.BadNeeds(0)))
        self.assert_wrong_arguments(open_steps, (((3, 4), (1, 2)),), [wrong])
        self.assert_wrong_arguments(shows_steps, (((3, 4), (1, 2)), ()), [wrong])


class JudgeTest(Checks, unittest.TestCase):
    def changed(self, rng, steps):
        """The steps with two of them exchanged, one cut in two, two joined, or jobs exchanged between machines."""
        rows = list(steps)
        place, other = rng.randrange(len(rows)), rng.randrange(len(rows))
        duration, jobs = rows[place]
        kind = rng.choice(("exchange", "cut", "join", "jobs", "idle"))
        if kind == "exchange":
            rows[place], rows[other] = rows[other], rows[place]
        elif kind == "cut":
            part = rng.randint(0, duration)
            rows[place:place + 1] = [(part, jobs), (duration - part, jobs)]
        elif kind == "join" and place != other:
            rows[place] = (duration + rows[other][0], jobs)
            del rows[other]
        elif kind == "jobs":
            row = list(jobs)
            one, two = rng.randrange(len(row)), rng.randrange(len(row))
            row[one], row[two] = row[two], row[one]
            rows[place] = (duration, tuple(row))
        else:
            rows.append((rng.randint(1, 2), (None,) * len(jobs)))
        return tuple(rows)

    def test_steps_that_are_bent(self):
        rng = rng_of(272)
        counts = [0, 0]
        for _ in range(400):
            needs = random_needs(rng)
            steps = open_steps(needs)
            if not steps:
                continue
            for value in bent_tuples(rng, steps) + [self.changed(rng, steps) for _ in range(12)] + [steps[::-1]]:
                wanted = plain_steps(needs, value)
                self.assertIs(self.assert_steady(shows_steps, needs, value), wanted, (needs, value))
                counts[wanted] += 1
        self.assertGreater(min(counts), 500)

    def test_edges(self):
        needs = ((2, 1), (1, 2))
        for value, wanted in ((((2, (0, 1)), (1, (1, 0))), True), (((1, (1, 0)), (2, (0, 1))), True),
                              (((1, (0, 1)), (1, (1, 0)), (1, (0, 1))), True),
                              (((2, (0, 1)),), False), (((2, (0, 1)), (1, (1, None))), False),
                              (((2, (0, 1)), (1, (1, 0)), (1, (None, None))), False),
                              (((2, (0, 0)), (1, (1, 1))), False), (((3, (0, 1)),), False),
                              (((2, (0, 1)), (0, (0, 1)), (1, (1, 0))), False),
                              (((3, (0, 1)), (-1, (0, 1)), (1, (1, 0))), False),
                              (((2, (False, 1)), (1, (1, 0))), False), (((2, (0, True)), (1, (1, 0))), False),
                              (((2, (0, 1)), (True, (1, 0))), False), (((2, (0, 1)), (1, [1, 0])), False),
                              (([2, (0, 1)], (1, (1, 0))), False), ([(2, (0, 1)), (1, (1, 0))], False),
                              (((2, (0, 1)), (1, (1, 0, None))), False), (((2, (0, 1)), (1, (1,))), False),
                              (((2, (0, 1)), (1, (1, 2))), False), (((2, (0, 1)), (1, (-1, 0))), False),
                              (((2, (0, 1), 0), (1, (1, 0))), False), (((10 ** 30, (0, 1)), (1, (1, 0))), False)):
            self.assertIs(shows_steps(needs, value), wanted, value)
        # No step may work on what is not needed, even if the durations sum up.
        self.assertIs(shows_steps(((3, 0), (0, 1)), ((1, (0, 1)), (2, (0, None)))), True)
        self.assertIs(shows_steps(((3, 0), (0, 1)), ((1, (0, 1)), (2, (0, 1)))), False)
        # All needs are met, but in more time than need be.
        self.assertIs(shows_steps(((3, 0), (0, 1)), ((3, (0, None)), (1, (None, 1)))), False)

    def test_values_of_other_kinds(self):
        for value in ANY_VALUES:
            self.assertIs(self.assert_steady(shows_steps, ((2, 1), (1, 2)), value), False)
            self.assertIs(shows_steps(((0, 0),), value), same(value, ()))


if __name__ == "__main__":
    unittest.main()
