"""Small calculations with integers that several files share."""

from math import lcm


def rounded_up(length, gap):
    """Return the length divided by the gap, rounded up."""
    return -(-length // gap)


def common_multiple(numbers):
    """Return the least common multiple of the numbers in a list."""
    common = 1
    for number in numbers:
        common = lcm(common, number)
    return common
