"""The jobs of one task within a course."""


class Jobs:
    """How many jobs came, were due, done and late, and how far the first one that is not done has come.

    A task's jobs are done in the order in which they come, so these counts tell which job is which.
    """

    def __init__(self, task):
        self.task = task
        self.came = 0
        self.due = 0
        self.done = 0
        self.late = 0
        self.greatest = 0
        self.least = 0
        self.reloads = 0
        self.begun = False
        self.left = task.cycles
        self.lost = {}

    def comes_at(self, number):
        """The time at which the job of this number, from 0, comes."""
        return self.task.offset + number * self.task.period

    def reach(self, now):
        """Counts the job that is to be done by this time, and the one that comes at it."""
        if self.comes_at(self.due) + self.task.deadline == now:
            self.due += 1
            if self.done < self.due:
                self.late += 1
        if self.comes_at(self.came) == now:
            self.came += 1

    def waits(self):
        return self.done < self.came

    def lose(self, lines):
        """What becomes of a begun job while another task runs that uses these lines."""
        if self.begun:
            for line in lines:
                self.lost[line] = True

    def run(self, now, line_cost):
        """Runs the first job that is not done for the cycle at this time."""
        reloads = self.task.useful_among(self.lost) * line_cost
        self.reloads += reloads
        self.lost = {}
        self.begun = True
        self.left += reloads - 1
        if self.left == 0:
            self.finish(now + 1)

    def finish(self, now):
        """The first job is done at this time; the next one, if it waits, has not run."""
        took = now - self.comes_at(self.done)
        self.greatest = max(self.greatest, took)
        self.least = took if self.done == 0 else min(self.least, took)
        self.done += 1
        self.begun = False
        self.left = self.task.cycles

    def counted(self):
        """The six numbers that a course tells of a task."""
        return [self.came, self.done, self.late, self.greatest, self.least, self.reloads]
