"""The package's one function to be called from outside: the answers to a list of calls."""

from cachetasks.calls import read_calls
from cachetasks.held import Held


def answer(held, name, numbers, row):
    """The numbers that one call answers."""
    if name == "reload":
        return held.set_reload(numbers[0])
    if name == "task":
        return held.add_task(row)
    if name == "retask":
        return held.change_task(numbers[0], row)
    if name == "untask":
        return held.drop_task(numbers[0])
    if name == "order":
        return held.set_order(row)
    if name == "sorted":
        return held.sort_order(numbers[0])
    if name == "tasks":
        return held.tell_tasks()
    if name == "ranks":
        return held.tell_order()
    if name == "cost":
        return held.tell_cost(numbers[0], numbers[1])
    if name == "response":
        return held.tell_response(numbers[0])
    if name == "all":
        return held.tell_all()
    if name == "best":
        return held.tell_best()
    if name == "course":
        return held.tell_course(numbers[0])
    if name == "trace":
        return held.tell_trace(numbers[0], numbers[1])
    # Of the fifteen calls late alone is left.
    return held.tell_late(numbers[0])


def answers(calls):
    """For each call, in order: how many numbers it answers, then these."""
    held = Held()
    given = []
    for name, numbers, row in read_calls(calls):
        numbers_answered = answer(held, name, numbers, row)
        given.append(len(numbers_answered))
        given.extend(numbers_answered)
    return given
