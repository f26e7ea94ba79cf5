"""Tests of single values, which every other file of the package uses."""

from eventcore.errors import BadLength, BadMachines, BadOrder, BadTask

MOST_MACHINES = 4


def is_number(value):
    """Tell whether the value is an integer."""
    # Python counts True and False among its integers; the package does not.
    return isinstance(value, int) and not isinstance(value, bool)


def is_integer(value, low, high):
    """Tell whether the value is an integer from low to high."""
    return is_number(value) and low <= value <= high


def is_tuple(value, least, most):
    """Tell whether the value is a tuple of at least so many and at most so many things."""
    return isinstance(value, tuple) and least <= len(value) <= most


def is_row(value, ranges):
    """Tell whether the value is a tuple with one integer from low to high for each of the ranges (low, high)."""
    if not is_tuple(value, len(ranges), len(ranges)):
        return False
    for entry, (low, high) in zip(value, ranges):
        if not is_integer(entry, low, high):
            return False
    return True


def are_integers(value, most, high):
    """Tell whether the value is a tuple of at least one and at most so many integers from 1 to high."""
    if not is_tuple(value, 1, most):
        return False
    return all([is_integer(entry, 1, high) for entry in value])


def is_order(value, many):
    """Tell whether the value is a tuple that contains each index below many once."""
    if not is_tuple(value, many, many):
        return False
    for entry in value:
        if not is_integer(entry, 0, many - 1):
            return False
    return sorted(value) == list(range(many))


def is_ascending(value, many):
    """Tell whether the value is a tuple of indexes below many, each one greater than the one before."""
    if not isinstance(value, tuple):
        return False
    before = -1
    for entry in value:
        if not is_integer(entry, before + 1, many - 1):
            return False
        before = entry
    return True


def are_apart(spans):
    """Tell whether no two of the spans (start, stop) have a time in common."""
    rows = sorted(spans)
    for before, after in zip(rows, rows[1:]):
        if after[0] < before[1]:
            return False
    return True


def first_greatest(numbers):
    """Return the greatest of the numbers in a list and the index of the first one that is as great."""
    greatest = max(numbers)
    return (greatest, numbers.index(greatest))


def check_length(value, low, high):
    """Raise BadLength unless the value is an integer from low to high."""
    if not is_integer(value, low, high):
        raise BadLength(f"not an integer from {low} to {high}")


def check_order(value, many):
    """Raise BadOrder unless the value contains each index below many once."""
    if not is_order(value, many):
        raise BadOrder("not a tuple of each index once")


def check_task(value, many):
    """Raise BadTask unless the value is an index below many."""
    if not is_integer(value, 0, many - 1):
        raise BadTask("not the index of a task")


def check_machines(value):
    """Raise BadMachines unless the value is a number of machines."""
    if not is_integer(value, 1, MOST_MACHINES):
        raise BadMachines(f"not an integer from 1 to {MOST_MACHINES}")
