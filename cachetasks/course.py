"""The package's one function to be called from outside: the answers to a list of calls."""

from cachetasks.calls import read_calls
from cachetasks.held import Held


def answer(held, name, numbers, row):
    """The numbers that one call answers."""
    if name == "reload":
        return held.set_reload(numbers[0])
    if name == "task":
        return held.add_task(row)
    if name == "retask":
        return held.change_task(numbers[0], row)
    if name == "untask":
        return held.drop_task(numbers[0])
    if name == "order":
        return held.set_order(row)
    if name == "sorted":
        return held.sort_order(numbers[0])
    if name == "tasks":
        return held.tell_tasks()
    if name == "ranks":
        return held.tell_order()
    raise NotImplementedError(name)


def answers(calls):
    """For each call, in order: how many numbers it answers, then these."""
    held = Held()
    given = []
    for name, numbers, row in read_calls(calls):
        numbers_answered = answer(held, name, numbers, row)
        given.append(len(numbers_answered))
        given.extend(numbers_answered)
    return given
