"""The exact course of the tasks, cycle by cycle, from the time 0 on."""

from cachetasks.jobs import Jobs


class Play:
    """One course: each task's jobs, by the tasks' numbers; it is played once, from its beginning."""

    def __init__(self, tasks, order, line_cost):
        self.jobs = [Jobs(task) for task in tasks]
        self.order = order
        self.line_cost = line_cost

    def reach(self, now):
        for jobs in self.jobs:
            jobs.reach(now)

    def highest(self):
        """The number of the highest task with a job that is not done, or None."""
        for number in self.order:
            if self.jobs[number].waits():
                return number
        return None

    def run(self, now):
        """Plays the cycle at this time: 1 more than the number of the task that runs, or 0."""
        number = self.highest()
        if number is None:
            return 0
        running = self.jobs[number]
        for other, jobs in enumerate(self.jobs):
            if other != number:
                jobs.lose(running.task.used)
        running.run(now, self.line_cost)
        return number + 1

    def ran(self, end):
        """For each cycle before an end, which task runs, as run tells it."""
        told = []
        for now in range(end):
            self.reach(now)
            told.append(self.run(now))
        return told

    def counted(self, end):
        """How many cycles before an end are idle, then each task's six numbers."""
        told = [self.ran(end).count(0)]
        for jobs in self.jobs:
            told.extend(jobs.counted())
        return told

    def late_task(self):
        """The first task, by number, of which a job has been late, or None."""
        for number, jobs in enumerate(self.jobs):
            if jobs.late > 0:
                return number
        return None

    def first_late(self, end):
        """The first time before an end at which a job is late, and the first task of which one is; or None."""
        for now in range(end):
            self.reach(now)
            number = self.late_task()
            if number is not None:
                return [now, number]
            self.run(now)
        return None
