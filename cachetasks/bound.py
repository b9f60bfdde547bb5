"""How long a job of a task can take at most, and the first order in which all tasks are in time.

The tasks are handed in as ranked: in their order, the highest one first. A place is an index into that.
"""


def used_by(tasks):
    """The lines that one of these tasks uses, as the keys of a dict."""
    used = {}
    for task in tasks:
        for line in task.used:
            used[line] = True
    return used


def cost_seen(ranked, line_cost, low, high):
    """What a preemption by the task at the place high costs, seen from the one at the place low below it."""
    used = used_by(ranked[:high + 1])
    counts = [task.useful_among(used) for task in ranked[high + 1:low + 1]]
    return max(counts) * line_cost


def loads_above(ranked, line_cost, place):
    """For each task above a place: its period, and the cycles that each of its jobs may take from those below."""
    loads = []
    for high in range(place):
        cost = cost_seen(ranked, line_cost, place, high)
        loads.append((ranked[high].period, ranked[high].cycles + cost))
    return loads


def what_fits(cycles, loads, r):
    """A task's own cycles, and what those above it may take from it within a time r."""
    fits = cycles
    for period, load in loads:
        fits += (r + period - 1) // period * load
    return fits


def rounds_made(ranked, line_cost, place):
    """What r became in each round, for the task at a place; the last one is its response time."""
    task = ranked[place]
    loads = loads_above(ranked, line_cost, place)
    before = task.cycles
    made = [what_fits(task.cycles, loads, before)]
    while made[-1] != before and made[-1] <= task.deadline:
        before = made[-1]
        made.append(what_fits(task.cycles, loads, before))
    return made


def lowest_in_time(ranked, line_cost):
    """Whether the lowest of these tasks is told in time; without any there is none that is not."""
    if not ranked:
        return True
    made = rounds_made(ranked, line_cost, len(ranked) - 1)
    return made[-1] <= ranked[-1].deadline


def first_order(tasks, line_cost):
    """The first order of the tasks, by their numbers, in which all are told in time, or None."""
    # A task's response time asks nothing of those below it: a beginning of an order that fails is not gone on with.
    heads = [[]]
    while heads:
        head = heads.pop()
        if not lowest_in_time([tasks[number] for number in head], line_cost):
            continue
        if len(head) == len(tasks):
            return head
        # The last one put there is taken out first, so the least number is put there last.
        for number in range(len(tasks) - 1, -1, -1):
            if number not in head:
                heads.append(head + [number])
    return None
