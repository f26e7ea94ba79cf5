"""Servers with a budget for each period: in which units requests are served, and how many of them a window can have."""

from eventcore.errors import BadRequests, BadServer
from eventcore.supply import MOST_WINDOW
from eventcore.values import check_length, is_row, is_tuple

MOST_PERIOD = 20
MOST_REQUESTS = 12
LAST_ARRIVAL = 100
MOST_UNITS = 20


def check_server(server):
    """Raise BadServer unless the value is a server (budget, period)."""
    if not is_row(server, ((1, MOST_PERIOD), (1, MOST_PERIOD))) or server[0] > server[1]:
        raise BadServer("not a pair of a budget and a period that is not smaller")


def check_requests(requests):
    """Raise BadRequests unless the value is requests (arrival, units), none of them earlier than the one before."""
    if not is_tuple(requests, 0, MOST_REQUESTS):
        raise BadRequests(None)
    earliest = 0
    for index, value in enumerate(requests):
        if not is_row(value, ((earliest, LAST_ARRIVAL), (1, MOST_UNITS))):
            raise BadRequests(index)
        earliest = value[0]


def served_units(server, requests, polling):
    """Return the units in which a request is served, by a polling server or by a deferrable one."""
    check_server(server)
    check_requests(requests)
    budget, period = server
    remaining = 0
    unit = 0
    served = []
    while len(served) < sum([units for _, units in requests]):
        if unit % period == 0:
            remaining = budget
        waiting = sum([units for arrival, units in requests if arrival <= unit]) > len(served)
        if waiting and remaining > 0:
            served.append(unit)
            remaining -= 1
        elif polling and not waiting:
            remaining = 0
        unit += 1
    return tuple(served)


def deferrable_units(server, requests):
    """Return the units in which a server serves requests that keeps its budget while no request is waiting."""
    return served_units(server, requests, False)


def polling_units(server, requests):
    """Return the units in which a server serves requests that loses its budget as soon as no request is waiting."""
    return served_units(server, requests, True)


def served_between(server, start, stop):
    """Return the greatest number of units that a deferrable server serves from start to stop - 1."""
    budget, period = server
    total = 0
    for begin in range(0, stop, period):
        # A whole budget may be left for the part of each period that lies between them.
        total += min(budget, max(0, min(stop, begin + period) - max(start, begin)))
    return total


def deferrable_bound(server, window):
    """Return the greatest number of units that a deferrable server serves in so many consecutive units."""
    check_server(server)
    check_length(window, 0, MOST_WINDOW)
    return max([served_between(server, start, start + window) for start in range(server[1])])
