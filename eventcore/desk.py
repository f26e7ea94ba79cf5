"""A desk that admits tasks one after the other, as long as all of them can keep their due times."""

from eventcore.deadlines import overfull_length
from eventcore.errors import (BadKind, BadName, BadTasks, BadWanted, DeskFull, NameTaken, NoName, NothingToUndo)
from eventcore.orders import feasible_order
from eventcore.tasks import MOST_TASKS, is_task

LONGEST_NAME = 8


def check_name(name):
    """Raise BadName unless the value is a name: a string of small letters, not too long and not empty."""
    if not isinstance(name, str) or not 1 <= len(name) <= LONGEST_NAME:
        raise BadName(f"not a string of 1 to {LONGEST_NAME} letters")
    if not all(["a" <= letter <= "z" for letter in name]):
        raise BadName("not a string of letters from a to z")


def check_wanted(wanted):
    """Raise the error of a value that is not a dict from names to tasks."""
    if not isinstance(wanted, dict):
        raise BadWanted("not a dict from names to tasks")
    for name in wanted:
        check_name(name)
    for index, name in enumerate(sorted(wanted)):
        if not is_task(wanted[name]):
            raise BadTasks(index)


def by_name(tasks):
    """Return the tuple of the tasks of a dict in the order of their names."""
    return tuple([tasks[name] for name in sorted(tasks)])


def may_stand_together(kind, tasks):
    """Tell whether the tasks of a dict may stand together at a desk of the kind."""
    if len(tasks) == 0:
        return True
    if kind == "deadline":
        return overfull_length(by_name(tasks)) is None
    return feasible_order(by_name(tasks)) is not None


class Desk:
    """Tasks with names that may stand together: under earliest deadlines, or under fixed priorities."""

    def __init__(self, kind):
        if kind not in ("deadline", "fixed"):
            raise BadKind("neither deadline nor fixed")
        self.kind = kind
        self.tasks = {}
        # A pair (name, task) for each call that can be taken back: what the name stood for before it, or None.
        self.calls = []

    def admit(self, name, task):
        """Add the task and return True if it may stand together with those that are there, otherwise return False."""
        # A value that is no name need not be allowed as a key.
        check_name(name)
        if not self.trial({name: task}):
            return False
        self.tasks[name] = task
        self.calls.append((name, None))
        return True

    def withdraw(self, name):
        """Take the task away and return it."""
        check_name(name)
        if name not in self.tasks:
            raise NoName("no task of this name")
        task = self.tasks.pop(name)
        self.calls.append((name, task))
        return task

    def listed(self):
        """Return the tuple of the pairs (name, task), ascending by name."""
        return tuple([(name, self.tasks[name]) for name in sorted(self.tasks)])

    def undo(self):
        """Take back the last call that changed the tasks and has not been taken back."""
        if not self.calls:
            raise NothingToUndo("no call to take back")
        name, task = self.calls.pop()
        if task is None:
            del self.tasks[name]
        else:
            self.tasks[name] = task

    def trial(self, wanted):
        """Tell whether all tasks of a dict may stand together with those that are there."""
        check_wanted(wanted)
        for name in wanted:
            if name in self.tasks:
                raise NameTaken("a task of this name is there")
        if len(self.tasks) + len(wanted) > MOST_TASKS:
            raise DeskFull(f"more than {MOST_TASKS} tasks")
        together = dict(self.tasks)
        together.update(wanted)
        return may_stand_together(self.kind, together)

    def ranking(self):
        """Return the names of all tasks: by deadlines, or in a feasible order."""
        names = sorted(self.tasks)
        if len(names) == 0:
            return ()
        if self.kind == "deadline":
            # Names with one deadline stay in their order.
            return tuple(sorted(names, key=lambda name: self.tasks[name][1]))
        return tuple([names[index] for index in feasible_order(by_name(self.tasks))])

    def twin(self):
        """Return a new desk of the same kind with the same tasks and the same calls to take back."""
        desk = Desk(self.kind)
        desk.tasks = {name: self.tasks[name] for name in self.tasks}
        desk.calls = list(self.calls)
        return desk
