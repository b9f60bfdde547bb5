"""What the tests share: calls as rows of numbers, and a line's answers one by one."""

from cachetasks.course import answers

LEAST = -10 ** 18
MOST = 10 ** 18

TASKS = [6]
RANKS = [7]
ALL = [10]
BEST = [11]

# The two tasks of the document's example.
FIRST = [10, 10, 3, 0, 0, 2, 1, 2]
SECOND = [20, 20, 8, 0, 3, 1, 2, 3, 4, 1, 2, 3, 4]


def reload(n):
    return [0, n]


def task(numbers):
    return [1, len(numbers)] + numbers


def retask(i, numbers):
    return [2, i, len(numbers)] + numbers


def untask(i):
    return [3, i]


def order(tasks):
    return [4, len(tasks)] + tasks


def sort(kind):
    return [5, kind]


def cost(i, j):
    return [8, i, j]


def response(i):
    return [9, i]


def course(h):
    return [12, h]


def trace(t, n):
    return [13, t, n]


def late(h):
    return [14, h]


def told(period, deadline, cycles, offset=0, useful=(), used=()):
    """The numbers of a task."""
    return [period, deadline, cycles, offset, len(useful), *useful, len(used), *used]


def plain(period, deadline=1):
    """The numbers of a task without lines, that its period and deadline tell from others."""
    return [period, deadline, 1, 0, 0, 0]


def line(*calls):
    """The one list that hands these calls in."""
    return [number for call in calls for number in call]


def split(given):
    """The answers, each a list, from the one list that is given back."""
    found = []
    at = 0
    while at < len(given):
        count = given[at]
        if count < 1 or at + 1 + count > len(given):
            raise AssertionError(f"the count at {at} does not fit: {given}")
        found.append(given[at + 1:at + 1 + count])
        at += 1 + count
    return found


def run(*calls):
    """The answers of one line with these calls, each a list."""
    return split(answers(line(*calls)))


def last(*calls):
    return run(*calls)[-1]
