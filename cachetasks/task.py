"""A task, how it is read from its numbers, and how it is told by numbers again."""

MOST_PERIOD = 500
MOST_OFFSET = 500
LAST_LINE = 31
# Where the useful lines begin, with their count: behind period, deadline, cycles and offset.
USEFUL_AT = 4


class Task:
    """One task; the lines stay in the order in which they were told."""

    def __init__(self, times, useful, used):
        self.period = times[0]
        self.deadline = times[1]
        self.cycles = times[2]
        self.offset = times[3]
        self.useful = useful
        self.used = used

    def told(self):
        """The numbers that tell this task."""
        times = [self.period, self.deadline, self.cycles, self.offset]
        return times + [len(self.useful)] + self.useful + [len(self.used)] + self.used

    def useful_among(self, lines):
        """How many of this task's useful lines are keys of a dict of lines."""
        return len([line for line in self.useful if line in lines])


def times_fit(times):
    """Whether period, deadline, cycles and offset are all there and within their bounds."""
    if len(times) != USEFUL_AT:
        return False
    if not 1 <= times[0] <= MOST_PERIOD:
        return False
    if not 1 <= times[1] <= times[0]:
        return False
    if not 1 <= times[2] <= times[1]:
        return False
    return 0 <= times[3] <= MOST_OFFSET


def lines_fit(lines):
    """Whether these are lines of the cache, no two the same."""
    for line in lines:
        if not 0 <= line <= LAST_LINE:
            return False
    return len(set(lines)) == len(lines)


def read_lines(numbers, at):
    """The lines whose count stands at a place, or None if no such lines stand there."""
    if at >= len(numbers):
        return None
    count = numbers[at]
    # The count may be huge, so it is held against what is there before it is used as a place.
    if not 0 <= count <= len(numbers) - at - 1:
        return None
    lines = numbers[at + 1:at + 1 + count]
    return lines if lines_fit(lines) else None


def read_task(numbers):
    """The task that a list tells by numbers, or None if it tells none."""
    times = numbers[:USEFUL_AT]
    if not times_fit(times):
        return None
    useful = read_lines(numbers, USEFUL_AT)
    if useful is None:
        return None
    used_at = USEFUL_AT + 1 + len(useful)
    used = read_lines(numbers, used_at)
    if used is None:
        return None
    if used_at + 1 + len(used) != len(numbers):
        return None
    return Task(times, useful, used)
