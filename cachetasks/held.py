"""The object on which calls are made; each call gives back the numbers that it answers."""

from cachetasks.task import read_task

MOST_TASKS = 6
MOST_RELOAD = 20

DONE = 0
NO_TASK = -3
NO_KIND = -5
OUT_OF_RANGE = -7
TOO_MANY = -9
WRONG_LIST = -12

BY_PERIOD = 0
BY_DEADLINE = 1


class Held:
    """Tasks by their numbers, their order, the highest first, and what reloading a line costs."""

    def __init__(self):
        self.tasks = []
        self.order = []
        self.line_cost = 0

    def has_task(self, i):
        return 0 <= i < len(self.tasks)

    def set_reload(self, n):
        if not 0 <= n <= MOST_RELOAD:
            return [OUT_OF_RANGE]
        self.line_cost = n
        return [DONE]

    def add_task(self, numbers):
        task = read_task(numbers)
        if task is None:
            return [WRONG_LIST]
        number = len(self.tasks)
        if number == MOST_TASKS:
            return [TOO_MANY]
        self.tasks.append(task)
        self.order.append(number)
        return [DONE, number]

    def change_task(self, i, numbers):
        if not self.has_task(i):
            return [NO_TASK]
        task = read_task(numbers)
        if task is None:
            return [WRONG_LIST]
        self.tasks[i] = task
        return [DONE]

    def drop_task(self, i):
        if not self.has_task(i):
            return [NO_TASK]
        self.tasks.pop(i)
        others = [k for k in self.order if k != i]
        self.order = [k - 1 if k > i else k for k in others]
        return [DONE]

    def set_order(self, numbers):
        if sorted(numbers) != list(range(len(self.tasks))):
            return [WRONG_LIST]
        self.order = list(numbers)
        return [DONE]

    def sort_order(self, kind):
        if kind == BY_PERIOD:
            times = [task.period for task in self.tasks]
        elif kind == BY_DEADLINE:
            times = [task.deadline for task in self.tasks]
        else:
            return [NO_KIND]
        self.order = sorted(range(len(times)), key=lambda i: (times[i], i))
        return [DONE] + self.order

    def tell_tasks(self):
        answer = [DONE, len(self.tasks)]
        for task in self.tasks:
            answer.extend(task.told())
        return answer

    def tell_order(self):
        return [DONE] + self.order
