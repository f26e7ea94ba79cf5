"""Points 45 and 46: desks that admit tasks."""

import unittest
from itertools import combinations, permutations

from eventcore import errors
from eventcore.deadlines import overfull_length
from eventcore.desk import Desk
from eventcore.fixed import meets_fixed
from support import ANY_VALUES, Checks, random_task, rng_of
from test_fixed import ENDLESS, LONGER

KINDS = ("deadline", "fixed")
NAMES = ("a", "ab", "b", "bell", "lamp", "pump", "z", "zzzzzzzz")
TASK = (1, 60, 60)
BAD_NAMES = [value for value in ANY_VALUES if value not in ("fixed", "deadline")] + [
    "abcdefghi", "A", "aB", "a1", "1", "a b", " a", "a ", "a\n", "a-b", "a_b", "\u00e4", "\u0430", "a\u0301", "\uff41",
    "{", "`", ("a",), ["a"], b"a"]
BAD_TASKS = [value for value in ANY_VALUES] + [
    (0, 1, 1), (21, 1, 1), (1, 0, 1), (1, 61, 1), (1, 1, 0), (1, 1, 61), (1, 1), (1, 1, 1, 1), [1, 1, 1], (True, 1, 1),
    (1, True, 1), (1, 1, None), ("1", 1, 1)]


def stand_together(kind, tasks):
    """Whether the tasks of a dict may stand together, for fixed priorities by all orders."""
    rows = tuple(tasks[name] for name in sorted(tasks))
    if not rows:
        return True
    if kind == "deadline":
        return overfull_length(rows) is None
    return any(meets_fixed(rows, order) for order in permutations(range(len(rows))))


def can_be_key(value):
    try:
        return {value: True}[value]
    except TypeError:
        return False


def state(desk):
    return desk.listed(), desk.ranking()


def filled(kind, tasks):
    desk = Desk(kind)
    for name, task in tasks.items():
        if not desk.admit(name, task):
            raise AssertionError((kind, tasks))
    return desk


class PlainDesk:
    """What the points say, with a copy of all tasks before each call that can be taken back."""

    def __init__(self, kind):
        self.kind, self.tasks, self.before = kind, {}, []

    def trial(self, wanted):
        if any(name in self.tasks for name in wanted):
            raise errors.NameTaken()
        if len(self.tasks) + len(wanted) > 6:
            raise errors.DeskFull()
        return stand_together(self.kind, {**self.tasks, **wanted})

    def admit(self, name, task):
        if not self.trial({name: task}):
            return False
        self.before.append(dict(self.tasks))
        self.tasks[name] = task
        return True

    def withdraw(self, name):
        if name not in self.tasks:
            raise errors.NoName()
        self.before.append(dict(self.tasks))
        return self.tasks.pop(name)

    def undo(self):
        if not self.before:
            raise errors.NothingToUndo()
        self.tasks = self.before.pop()

    def listed(self):
        return tuple(sorted(self.tasks.items()))

    def twin(self):
        desk = PlainDesk(self.kind)
        desk.tasks, desk.before = dict(self.tasks), [dict(tasks) for tasks in self.before]
        return desk


def told(desk, word, *arguments):
    """The answer of the call, or the kind of its error."""
    try:
        return getattr(desk, word)(*arguments)
    except errors.EventError as error:
        return type(error), vars(error)


class DeskTest(Checks, unittest.TestCase):
    def test_example(self):
        desk = Desk("fixed")
        answers = [desk.admit("pump", (2, 4, 4)), desk.admit("lamp", (2, 3, 6)), desk.trial({"bell": (1, 2, 8)}),
                   desk.ranking()]
        self.assert_same([answers, desk.listed(), desk.undo(), desk.listed()],
                         [[True, True, False, ("lamp", "pump")], (("lamp", (2, 3, 6)), ("pump", (2, 4, 4))), None,
                          (("pump", (2, 4, 4)),)])

    def test_methods_stand_in_the_class(self):
        for word in ("admit", "withdraw", "listed", "undo", "trial", "ranking", "twin"):
            self.assertIn(word, vars(Desk))

    def test_kinds(self):
        for value in [*ANY_VALUES, "Fixed", "fixed ", "whole", ("fixed",), ["fixed"], "slack"]:
            if value in KINDS:
                self.assert_same(state(Desk(value)), ((), ()))
            else:
                self.assert_error(errors.BadKind(), Desk, value)
        self.assert_error(errors.BadKind(), Desk, True)

    def check_ranking(self, desk, plain):
        ranking = desk.ranking()
        self.assertIs(type(ranking), tuple)
        names = [name for name, _ in plain.listed()]
        if plain.kind == "deadline":
            self.assert_same(ranking, tuple(sorted(names, key=lambda name: (plain.tasks[name][1], name))))
        else:
            self.assertEqual(sorted(ranking), names)
            if names:
                rows = tuple(plain.tasks[name] for name in names)
                self.assertTrue(meets_fixed(rows, tuple(names.index(name) for name in ranking)))

    def step(self, rng, desk, plain, counts):
        """One random call of both desks; the answers are the same, and so is what is there behind it."""
        word = rng.choice(("admit", "admit", "withdraw", "undo", "trial", "twin"))
        name, task = rng.choice(NAMES), random_task(rng, most_cost=2, most_gap=12, most_deadline=12)
        if word == "twin":
            for _ in range(2):
                one, other = desk.twin(), plain.twin()
                for _ in range(rng.randint(0, 4)):
                    self.step(rng, one, other, counts)
        else:
            arguments = {"admit": (name, task), "withdraw": (name,), "undo": (),
                         "trial": ({one: random_task(rng, most_cost=2) for one in
                                    rng.sample(NAMES, rng.randint(0, 3))},)}[word]
            answer = told(desk, word, *arguments)
            self.assertEqual(answer, told(plain, word, *arguments), (word, arguments, plain.listed()))
            key = word, answer if isinstance(answer, bool) else isinstance(answer, tuple) and type(answer[0]) is type
            counts[key] = counts.get(key, 0) + 1
        self.assert_same(desk.listed(), plain.listed())
        self.check_ranking(desk, plain)

    def test_random_calls(self):
        rng = rng_of(450)
        for kind in KINDS:
            counts = {}
            for _ in range(40):
                desk, plain = Desk(kind), PlainDesk(kind)
                for _ in range(rng.randint(1, 30)):
                    self.step(rng, desk, plain, counts)
                while told(plain, "undo") is None:
                    self.assertIs(desk.undo(), None)
                    self.assert_same(desk.listed(), plain.listed())
                self.assert_error(errors.NothingToUndo(), desk.undo)
                self.assert_same(state(desk), ((), ()))
            for key in (("admit", True), ("admit", False), ("withdraw", False), ("withdraw", True), ("undo", False),
                        ("undo", True), ("trial", True), ("trial", False)):
                self.assertGreater(counts.get(key, 0), 10, (kind, key, counts))

    def test_names_in_all_orders(self):
        tasks = {"b": (1, 20, 20), "ab": (1, 20, 19), "a": (1, 9, 18), "zzzzzzzz": (1, 20, 17)}
        wanted = (("a", (1, 9, 18)), ("ab", (1, 20, 19)), ("b", (1, 20, 20)), ("zzzzzzzz", (1, 20, 17)))
        for names in permutations(tasks):
            for kind in KINDS:
                desk = filled(kind, {name: tasks[name] for name in names})
                self.assert_same(desk.listed(), wanted)
                if kind == "deadline":
                    self.assert_same(desk.ranking(), ("a", "ab", "b", "zzzzzzzz"))
                for name in names:
                    self.assert_same(desk.withdraw(name), tasks[name])
                self.assert_same(state(desk), ((), ()))

    def test_any_order_of_admission(self):
        rng = rng_of(451)
        together = 0
        for _ in range(60):
            tasks = {name: random_task(rng, most_cost=2, most_gap=20, most_deadline=30)
                     for name in rng.sample(NAMES, 4)}
            for kind in KINDS:
                if stand_together(kind, tasks):
                    together += 1
                    for names in permutations(tasks):
                        filled(kind, {name: tasks[name] for name in names})
                    for many in range(4):
                        for names in combinations(tasks, many):
                            self.assertIs(filled(kind, {name: tasks[name] for name in names}).trial({}), True)
        self.assertGreater(together, 20)

    def test_kinds_differ(self):
        # Earliest deadlines can keep more than fixed priorities.
        tasks = {"a": (2, 4, 4), "b": (5, 10, 10)}
        filled("deadline", tasks)
        desk = filled("fixed", {"a": (2, 4, 4)})
        self.assertIs(desk.admit("b", (5, 10, 10)), False)
        self.assert_same(desk.listed(), (("a", (2, 4, 4)),))

    def test_errors_of_admit(self):
        for kind in KINDS:
            desk = filled(kind, {"a": TASK, "b": (2, 60, 60)})
            before = state(desk)
            for name in BAD_NAMES:
                for task in (TASK, None, (0, 1, 1), {}):
                    self.assert_error(errors.BadName(), desk.admit, name, task)
            for task in BAD_TASKS:
                self.assert_error(errors.BadTasks(0), desk.admit, "c", task)
                self.assert_error(errors.BadTasks(0), desk.admit, "a", task)
            self.assert_error(errors.NameTaken(), desk.admit, "a", TASK)
            self.assert_error(errors.NameTaken(), desk.admit, "b", TASK)
            self.assert_same(state(desk), before)
            for name in "cdef":
                self.assertIs(desk.admit(name, TASK), True)
            before = state(desk)
            self.assert_error(errors.DeskFull(), desk.admit, "g", TASK)
            self.assert_error(errors.DeskFull(), desk.admit, "g", (20, 1, 1))
            self.assert_error(errors.NameTaken(), desk.admit, "f", (20, 1, 1))
            self.assert_error(errors.BadTasks(0), desk.admit, "g", (21, 1, 1))
            self.assert_error(errors.BadName(), desk.admit, "G", (21, 1, 1))
            self.assert_same(state(desk), before)
            # None of these calls is taken back, but the last one that changed something.
            self.assertIs(desk.undo(), None)
            self.assert_same([name for name, _ in desk.listed()], ["a", "b", "c", "d", "e"])
            self.assertIs(desk.admit("g", TASK), True)

    def test_errors_of_withdraw(self):
        for kind in KINDS:
            desk = filled(kind, {"a": TASK})
            for name in BAD_NAMES:
                self.assert_error(errors.BadName(), desk.withdraw, name)
            self.assert_error(errors.NoName(), desk.withdraw, "b")
            self.assert_error(errors.NoName(), desk.withdraw, "aa")
            self.assert_same(desk.withdraw("a"), TASK)
            self.assert_error(errors.NoName(), desk.withdraw, "a")
            self.assert_same(desk.listed(), ())
            desk.undo()
            self.assert_same(desk.listed(), (("a", TASK),))
            desk.undo()
            self.assert_error(errors.NothingToUndo(), desk.undo)

    def test_undo(self):
        for kind in KINDS:
            desk = Desk(kind)
            self.assert_error(errors.NothingToUndo(), desk.undo)
            self.assertIs(desk.admit("a", (2, 4, 4)), True)
            self.assertIs(desk.admit("b", (20, 1, 1)), False)
            self.assertIs(desk.trial({"c": TASK}), True)
            self.assert_same(desk.withdraw("a"), (2, 4, 4))
            self.assertIs(desk.admit("a", (3, 9, 9)), True)
            self.assert_error(errors.NameTaken(), desk.admit, "a", TASK)
            seen = []
            for _ in range(3):
                self.assertIs(desk.undo(), None)
                seen.append(desk.listed())
            self.assert_same(seen, [(), (("a", (2, 4, 4)),), ()])
            self.assert_error(errors.NothingToUndo(), desk.undo)
            # What has been taken back is not taken back again, and later calls are.
            self.assertIs(desk.admit("b", TASK), True)
            desk.undo()
            self.assert_error(errors.NothingToUndo(), desk.undo)

    def test_too_many(self):
        for kind in KINDS:
            for rows in (LONGER, ENDLESS):
                tasks = dict(zip("abcdef", rows))
                self.assert_error(errors.TooMany(5000), Desk(kind).trial, tasks)
        desk = filled("deadline", dict(zip("abcde", LONGER)))
        before = state(desk)
        self.assert_error(errors.TooMany(5000), desk.admit, "f", LONGER[5])
        self.assert_error(errors.TooMany(5000), desk.trial, {"f": LONGER[5]})
        self.assert_error(errors.NameTaken(), desk.trial, {"a": TASK})
        self.assert_error(errors.DeskFull(), desk.trial, {"f": LONGER[5], "g": TASK})
        self.assert_error(errors.BadTasks(1), desk.trial, {"f": LONGER[5], "g": None})
        self.assert_same(state(desk), before)
        desk.undo()
        self.assert_same(desk.listed(), before[0][:4])


class TrialTest(Checks, unittest.TestCase):
    def test_orders_of_filling(self):
        for kind in KINDS:
            desk = filled(kind, {"m": (2, 6, 8)})
            before = state(desk)
            for tasks in ({"a": (1, 4, 8), "z": (2, 6, 8)}, {"a": (1, 4, 8), "z": (4, 6, 8), "b": (1, 9, 9)}):
                answers = {desk.trial({name: tasks[name] for name in names}) for names in permutations(tasks)}
                self.assertEqual(answers, {stand_together(kind, {"m": (2, 6, 8), **tasks})})
            self.assertIs(desk.trial({}), True)
            self.assertIs(Desk(kind).trial({}), True)
            self.assert_same(state(desk), before)
            self.assertIs(desk.trial({"a": (20, 1, 1)}), False)
            wanted = {"a": (1, 4, 8)}
            self.assertIs(desk.trial(wanted), True)
            self.assert_same(wanted, {"a": (1, 4, 8)})

    def test_errors(self):
        for kind in KINDS:
            desk = filled(kind, {"m": TASK, "n": TASK, "o": TASK})
            before = state(desk)
            for value in [*ANY_VALUES, (("a", TASK),), [("a", TASK)], "a", None]:
                if not isinstance(value, dict):
                    self.assert_error(errors.BadWanted(), desk.trial, value)
            for name in filter(can_be_key, BAD_NAMES):
                self.assert_error(errors.BadName(), desk.trial, {name: TASK})
                self.assert_error(errors.BadName(), desk.trial, {"a": None, name: TASK, "m": 5})
                self.assert_error(errors.BadName(), desk.trial, {name: None, "b": 5})
            for task in BAD_TASKS:
                self.assert_error(errors.BadTasks(0), desk.trial, {"a": task})
                self.assert_error(errors.BadTasks(1), desk.trial, {"z": task, "y": TASK})
                self.assert_error(errors.BadTasks(2), desk.trial, {"q": task, "m": TASK, "b": TASK})
                # The index counts in the order of the names, whatever the order of filling.
                for names in permutations("apz"):
                    tasks = {name: TASK if name == "a" else task for name in names}
                    self.assert_error(errors.BadTasks(1), desk.trial, tasks)
            self.assert_error(errors.NameTaken(), desk.trial, {"m": TASK})
            self.assert_error(errors.NameTaken(), desk.trial, {"a": TASK, "o": TASK, "b": TASK, "c": TASK, "d": TASK})
            self.assert_error(errors.DeskFull(), desk.trial, {"a": TASK, "b": TASK, "c": TASK, "d": TASK})
            self.assert_error(errors.DeskFull(), desk.trial, dict.fromkeys("abcdefgh", (20, 1, 1)))
            self.assertIs(desk.trial({"a": TASK, "b": TASK, "c": TASK}), True)
            self.assert_same(state(desk), before)
            # Six names, but three of them are there already.
            self.assert_error(errors.NameTaken(), desk.trial, dict.fromkeys("mnoabc", TASK))


class RankingTest(Checks, unittest.TestCase):
    def test_equal_deadlines(self):
        tasks = {"c": (1, 30, 60), "a": (1, 30, 50), "d": (1, 20, 40), "b": (1, 30, 30), "e": (1, 60, 60)}
        for names in (("c", "a", "d", "b", "e"), ("e", "d", "c", "b", "a")):
            desk = filled("deadline", {name: tasks[name] for name in names})
            self.assert_same(desk.ranking(), ("d", "a", "b", "c", "e"))
            self.assert_same(desk.ranking(), ("d", "a", "b", "c", "e"))
        desk.withdraw("a")
        self.assert_same(desk.ranking(), ("d", "b", "c", "e"))

    def test_feasible_orders(self):
        # Only the task with the smaller deadline can come first.
        self.assert_same(filled("fixed", {"a": (3, 9, 9), "b": (2, 2, 9)}).ranking(), ("b", "a"))
        self.assert_same(filled("fixed", {"a": (2, 2, 9), "b": (3, 9, 9)}).ranking(), ("a", "b"))
        self.assert_same(filled("fixed", {"x": TASK}).ranking(), ("x",))
        self.assert_same(Desk("fixed").ranking(), ())
        self.assert_same(Desk("deadline").ranking(), ())


class TwinTest(Checks, unittest.TestCase):
    def test_twins_change_apart(self):
        for kind in KINDS:
            desk = filled(kind, {"a": TASK, "b": (2, 60, 60)})
            desk.withdraw("a")
            twin = desk.twin()
            self.assertIs(type(twin), Desk)
            self.assertIsNot(twin, desk)
            self.assert_same(state(twin), state(desk))
            self.assertIs(twin.admit("c", TASK), True)
            self.assert_same(desk.listed(), (("b", (2, 60, 60)),))
            self.assert_same(desk.withdraw("b"), (2, 60, 60))
            self.assert_same(twin.listed(), (("b", (2, 60, 60)), ("c", TASK)))
            # Each one takes back its own calls, and then the common ones.
            seen = []
            for one in (twin, desk):
                for _ in range(4):
                    one.undo()
                    seen.append(one.listed())
                self.assert_error(errors.NothingToUndo(), one.undo)
            both = (("a", TASK), ("b", (2, 60, 60)))
            common = [both[1:], both, both[:1], ()]
            self.assert_same(seen, common + common)

    def test_twins_of_twins(self):
        for kind in KINDS:
            desk = Desk(kind)
            rows = []
            for name in "abc":
                desk.admit(name, TASK)
                rows.append(desk.twin())
            for many, one in enumerate(rows, 1):
                self.assertEqual(len(one.listed()), many)
                other = one.twin()
                for left in range(many, 0, -1):
                    self.assertEqual(len(other.listed()), left)
                    other.undo()
                self.assert_error(errors.NothingToUndo(), other.undo)
                self.assertEqual(len(one.listed()), many)
            # The kind goes along.
            one = rows[0].twin()
            one.undo()
            one.admit("x", (2, 4, 4))
            self.assertIs(one.admit("y", (5, 10, 10)), kind == "deadline")


if __name__ == "__main__":
    unittest.main()
