"""Supply tables: how many units of a resource are there, and whether they are enough for the demand of tasks."""

from eventcore.busy import MOST_LENGTH, common_gap
from eventcore.counting import common_multiple, rounded_up
from eventcore.deadlines import demand_at
from eventcore.errors import BadTable, TooMany
from eventcore.schedules import late_jobs
from eventcore.simulation import table_schedule
from eventcore.tasks import check_pattern, check_tasks
from eventcore.values import check_length, is_integer, is_tuple

MOST_ENTRIES = 24
MOST_WINDOW = 500


def check_table(table):
    """Raise BadTable unless the value is a supply table."""
    if not is_tuple(table, 1, MOST_ENTRIES) or not all([is_integer(entry, 0, 1) for entry in table]):
        raise BadTable(f"not a tuple of 1 to {MOST_ENTRIES} integers 0 and 1")


def supplies(table, window):
    """Return the numbers of ones in so many units, for a window from each entry of the table on."""
    rounds, rest = divmod(window, len(table))
    twice = table + table
    return [rounds * sum(table) + sum(twice[start:start + rest]) for start in range(len(table))]


def check_window(table, window):
    """Raise the error of the first of the two arguments that is not allowed."""
    check_table(table)
    check_length(window, 0, MOST_WINDOW)


def least_supply(table, window):
    """Return the least number of ones in so many consecutive units."""
    check_window(table, window)
    return min(supplies(table, window))


def greatest_supply(table, window):
    """Return the greatest number of ones in so many consecutive units."""
    check_window(table, window)
    return max(supplies(table, window))


def reduced(table):
    """Return the shortest table with the same repetition that begins with the same unit."""
    check_table(table)
    sizes = [size for size in range(1, len(table) + 1) if table[:-size] == table[size:] and len(table) % size == 0]
    return table[:sizes[0]]


def meet(table, other, shift):
    """Tell whether some unit has a one in both tables if the second one is moved to the right."""
    units = range(common_multiple([len(table), len(other)]))
    return any([table[unit % len(table)] + other[(unit - shift) % len(other)] == 2 for unit in units])


def free_shift(table, other):
    """Return the least shift of the second table with which the tables never meet, or None if there is none."""
    check_table(table)
    check_table(other)
    for shift in range(len(other)):
        if not meet(table, other, shift):
            return shift
    return None


def last_length(table, tasks):
    """Return a length beyond which no length is the least one with more demand than supply."""
    common = common_gap(tasks)
    rate = sum([cost * (common // gap) for cost, _, gap in tasks]) * len(table)
    share = sum(table) * common
    # Both are multiplied with the same number here, the share's and the rate's common denominator.
    scale = common * len(table)
    if rate < share:
        return rounded_up((sum([cost for cost, _, _ in tasks]) + len(table)) * scale, share - rate)
    if rate == share:
        return max([deadline for _, deadline, _ in tasks]) + common_multiple([common, len(table)])
    return 1 + sum([cost * deadline * (common // gap) for cost, deadline, gap in tasks]) * len(table) // (rate - share)


def unserved_length(table, tasks):
    """Return the least positive length with a demand greater than the least supply, or None if there is none."""
    check_table(table)
    check_tasks(tasks)
    last = last_length(table, tasks)
    for length in range(1, min(last, MOST_LENGTH) + 1):
        if demand_at(tasks, length) > min(supplies(table, length)):
            return length
    if last > MOST_LENGTH:
        raise TooMany(MOST_LENGTH)
    return None


def table_missed(table, shift, tasks, pattern):
    """Return the missed jobs (task, number) if jobs run by earliest due times, only in units with a one."""
    check_table(table)
    if sum(table) == 0:
        raise BadTable("a table without a one")
    check_length(shift, 0, MOST_ENTRIES - 1)
    check_tasks(tasks)
    check_pattern(tasks, pattern)
    start = shift % len(table)
    turned = table[start:] + table[:start]
    return late_jobs(tasks, pattern, table_schedule(tasks, pattern, ("deadline",), turned))
