"""Task sets as texts, such as `2/5/8, 1/4/4`."""

from eventcore.errors import InvalidText, NotText
from eventcore.tasks import MOST_COST, MOST_DEADLINE, MOST_GAP, MOST_TASKS, check_tasks

DIGITS = "0123456789"


def write_tasks(tasks):
    """Return the text of a task set."""
    check_tasks(tasks)
    return ", ".join([f"{cost}/{deadline}/{gap}" for cost, deadline, gap in tasks])


def skip_spaces(text, place):
    """Return the first place from this one on that holds no space."""
    while place < len(text) and text[place] == " ":
        place += 1
    return place


def skip_digits(text, place):
    """Return the first place from this one on that holds no digit."""
    while place < len(text) and text[place] in DIGITS:
        place += 1
    return place


def skip_mark(text, place, mark):
    """Return the place behind the mark that must stand at this one."""
    if place == len(text) or text[place] != mark:
        raise InvalidText(place)
    return place + 1


def number_at(text, place, most):
    """Return the number from 1 to most that must begin at the place."""
    digits = text[place:skip_digits(text, place)]
    # A row of more than two digits is never turned into a number: Python refuses very long ones.
    if digits == "" or digits[0] == "0" or len(digits) > 2 or int(digits) > most:
        raise InvalidText(place)
    return int(digits)


def read_task(text, place):
    """Return the task whose text begins at the place, and the place behind it and the spaces that follow."""
    numbers = []
    for most in (MOST_COST, MOST_DEADLINE, MOST_GAP):
        if numbers:
            place = skip_mark(text, place, "/")
        place = skip_spaces(text, place)
        numbers.append(number_at(text, place, most))
        place = skip_spaces(text, skip_digits(text, place))
    return tuple(numbers), place


def read_tasks(text):
    """Return the task set that the text names."""
    if not isinstance(text, str):
        raise NotText("not a string")
    task, place = read_task(text, 0)
    tasks = [task]
    while place < len(text):
        if len(tasks) == MOST_TASKS:
            raise InvalidText(place)
        task, place = read_task(text, skip_mark(text, place, ","))
        tasks.append(task)
    return tuple(tasks)
