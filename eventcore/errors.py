"""The errors of the package: one class for each kind of failure, all of them direct subclasses of EventError."""


class EventError(ValueError):
    """The base class of all errors of the package."""


class BadTasks(EventError):
    """A value is not a task set; index names the first thing in it that is not a task, or is None."""

    def __init__(self, index):
        super().__init__(f"no task set: index {index}")
        self.index = index


class BadPattern(EventError):
    """A value is not a pattern; index names the first entry that is not allowed, or is None."""

    def __init__(self, index):
        super().__init__(f"no pattern: index {index}")
        self.index = index


class BadLength(EventError):
    """A length, a window, a shift or an overhead is not an integer of its range."""


class BadPolicy(EventError):
    """A value is not a policy for the task set."""


class BadSchedule(EventError):
    """A value is not a schedule for the pattern."""


class BadOrder(EventError):
    """A value is not a tuple that contains each index once."""


class BadTask(EventError):
    """A value is not the index of a task."""


class LongDeadline(EventError):
    """A deadline is greater than the gap; index names the first such task."""

    def __init__(self, index):
        super().__init__(f"deadline greater than the gap: index {index}")
        self.index = index


class BadOffsets(EventError):
    """A value is not a tuple of offsets, one for each task."""


class BadJobs(EventError):
    """A value is not a tuple of jobs; index names the first thing that is not a job, or is None."""

    def __init__(self, index):
        super().__init__(f"no jobs: index {index}")
        self.index = index


class BadBlocks(EventError):
    """A value is not a program of blocks."""


class BadSlots(EventError):
    """A value is not a tuple of slots; index names the first thing that is not a slot, or is None."""

    def __init__(self, index):
        super().__init__(f"no slots: index {index}")
        self.index = index


class BadPairs(EventError):
    """A value is not a tuple of pairs; index names the first thing that is not a pair, or is None."""

    def __init__(self, index):
        super().__init__(f"no pairs: index {index}")
        self.index = index


class BadLocked(EventError):
    """A value is not a tuple of locked tasks; index names the first that is none, or is None."""

    def __init__(self, index):
        super().__init__(f"no locked tasks: index {index}")
        self.index = index


class BadProtocol(EventError):
    """A value is not the name of a locking protocol."""


class BadLinks(EventError):
    """A value is not a tuple of links; index names the first thing that is not a link, or is None."""

    def __init__(self, index):
        super().__init__(f"no links: index {index}")
        self.index = index


class BadLengths(EventError):
    """A value is not a tuple of lengths."""


class BadMachines(EventError):
    """A value is not a number of machines."""


class BadNeeds(EventError):
    """A value is not a tuple of rows of needs; index names the first row not allowed, or is None."""

    def __init__(self, index):
        super().__init__(f"no needs: index {index}")
        self.index = index


class BadParents(EventError):
    """A value is not a tuple of parents; index names the first entry not allowed, or is None."""

    def __init__(self, index):
        super().__init__(f"no parents: index {index}")
        self.index = index


class BadNumber(EventError):
    """A value is not a number of jobs."""


class BadIntervals(EventError):
    """A value is not a tuple of intervals; index names the first that is none, or is None."""

    def __init__(self, index):
        super().__init__(f"no intervals: index {index}")
        self.index = index


class BadWeights(EventError):
    """A value is not a tuple of weights, one for each interval."""


class BadRows(EventError):
    """A value is not a tuple of rows, one for each machine."""


class BadDistances(EventError):
    """A value is not a tuple of distances."""


class BadTable(EventError):
    """A value is not a supply table that is allowed here."""


class BadServer(EventError):
    """A value is not a server."""


class BadRequests(EventError):
    """A value is not a tuple of requests; index names the first that cannot stand there, or is None."""

    def __init__(self, index):
        super().__init__(f"no requests: index {index}")
        self.index = index


class BadTrace(EventError):
    """A value is not a trace or a row; index names the first thing that cannot stand there, or is None."""

    def __init__(self, index):
        super().__init__(f"no trace: index {index}")
        self.index = index


class BadPrefix(EventError):
    """A value is not a prefix for the pattern."""


class BadKind(EventError):
    """A value is not a kind of desk."""


class BadName(EventError):
    """A value is not a name of a task."""


class BadWanted(EventError):
    """A value is not a dict of wanted tasks."""


class NameTaken(EventError):
    """A task of this name is at the desk."""


class NoName(EventError):
    """No task of this name is at the desk."""


class DeskFull(EventError):
    """A desk has no room for so many tasks."""


class NothingToUndo(EventError):
    """No call is left that could be taken back."""


class NotText(EventError):
    """A value is not a string."""


class InvalidText(EventError):
    """A text does not name a task set; place is the index of the first character not allowed."""

    def __init__(self, place):
        super().__init__(f"invalid text: place {place}")
        self.place = place


class TooMany(EventError):
    """An answer, or what it is asked about, is greater than most."""

    def __init__(self, most):
        super().__init__(f"more than {most}")
        self.most = most
