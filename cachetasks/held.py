"""The object on which calls are made; each call gives back the numbers that it answers."""

from cachetasks.bound import cost_seen, first_order, rounds_made
from cachetasks.play import Play
from cachetasks.task import read_task

MOST_TASKS = 6
MOST_RELOAD = 20
LAST_TIME = 3000
MOST_TRACED = 200

DONE = 0
# Told first where a question is answered with no: this is not a refusal.
NOT_SO = 1
NO_TASK = -3
NOT_ABOVE = -4
NO_KIND = -5
OUT_OF_RANGE = -7
TOO_MANY = -9
WRONG_LIST = -12

BY_PERIOD = 0
BY_DEADLINE = 1


class Held:
    """Tasks by their numbers, their order, the highest first, and what reloading a line costs."""

    def __init__(self):
        self.tasks = []
        self.order = []
        self.line_cost = 0

    def has_task(self, i):
        return 0 <= i < len(self.tasks)

    def set_reload(self, n):
        if not 0 <= n <= MOST_RELOAD:
            return [OUT_OF_RANGE]
        self.line_cost = n
        return [DONE]

    def add_task(self, numbers):
        task = read_task(numbers)
        if task is None:
            return [WRONG_LIST]
        number = len(self.tasks)
        if number == MOST_TASKS:
            return [TOO_MANY]
        self.tasks.append(task)
        self.order.append(number)
        return [DONE, number]

    def change_task(self, i, numbers):
        if not self.has_task(i):
            return [NO_TASK]
        task = read_task(numbers)
        if task is None:
            return [WRONG_LIST]
        self.tasks[i] = task
        return [DONE]

    def drop_task(self, i):
        if not self.has_task(i):
            return [NO_TASK]
        self.tasks.pop(i)
        others = [k for k in self.order if k != i]
        self.order = [k - 1 if k > i else k for k in others]
        return [DONE]

    def set_order(self, numbers):
        if sorted(numbers) != list(range(len(self.tasks))):
            return [WRONG_LIST]
        self.order = list(numbers)
        return [DONE]

    def sort_order(self, kind):
        if kind == BY_PERIOD:
            times = [task.period for task in self.tasks]
        elif kind == BY_DEADLINE:
            times = [task.deadline for task in self.tasks]
        else:
            return [NO_KIND]
        self.order = sorted(range(len(times)), key=lambda i: (times[i], i))
        return [DONE] + self.order

    def tell_tasks(self):
        answer = [DONE, len(self.tasks)]
        for task in self.tasks:
            answer.extend(task.told())
        return answer

    def tell_order(self):
        return [DONE] + self.order

    def ranked(self):
        """The tasks themselves in their order."""
        return [self.tasks[i] for i in self.order]

    def tell_cost(self, i, j):
        if not self.has_task(i) or not self.has_task(j):
            return [NO_TASK]
        low = self.order.index(i)
        high = self.order.index(j)
        if high >= low:
            return [NOT_ABOVE]
        return [DONE, cost_seen(self.ranked(), self.line_cost, low, high)]

    def tell_response(self, i):
        if not self.has_task(i):
            return [NO_TASK]
        made = rounds_made(self.ranked(), self.line_cost, self.order.index(i))
        return [DONE if made[-1] <= self.tasks[i].deadline else NOT_SO, made[-1], len(made)]

    def tell_all(self):
        first = DONE
        told = []
        for i in self.order:
            response = self.tell_response(i)
            if response[0] == NOT_SO:
                first = NOT_SO
            told.extend([i, response[1]])
        return [first] + told

    def tell_best(self):
        best = first_order(self.tasks, self.line_cost)
        return [NOT_SO] if best is None else [DONE] + best

    def new_play(self):
        return Play(self.tasks, self.order, self.line_cost)

    def tell_course(self, h):
        if not 0 <= h <= LAST_TIME:
            return [OUT_OF_RANGE]
        return [DONE] + self.new_play().counted(h)

    def tell_trace(self, t, n):
        if t < 0 or not 0 <= n <= MOST_TRACED or t + n > LAST_TIME:
            return [OUT_OF_RANGE]
        return [DONE] + self.new_play().ran(t + n)[t:]

    def tell_late(self, h):
        if not 0 <= h <= LAST_TIME:
            return [OUT_OF_RANGE]
        late = self.new_play().first_late(h)
        return [DONE] if late is None else [NOT_SO] + late
