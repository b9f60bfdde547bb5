"""The document's words retold job by job, as slowly as they stand, and asked the same as the program."""

import itertools
import random
import unittest

from helper import ALL, BEST, cost, course, last, late, order, reload, response, run, task, told, trace


class Told:
    """A task of the retelling."""

    def __init__(self, chosen):
        self.period, self.deadline, self.cycles, self.offset, self.useful, self.used = chosen


class Job:
    def __init__(self, number, came, takes):
        self.number, self.came, self.takes = number, came, takes
        self.has_run, self.done_at, self.lost = False, None, set()


def retold_cost(tasks, ranks, n, i, j):
    above_i, above_j = ranks[:ranks.index(i)], ranks[:ranks.index(j)]
    lines = set()
    for k in above_j + [j]:
        lines |= tasks[k].used
    below_j = [k for k in ranks if k not in above_j + [j]]
    return n * max(len(tasks[k].useful & lines) for k in below_j if k == i or k in above_i)


def retold_response(tasks, ranks, n, i):
    r, rounds = tasks[i].cycles, 0
    while True:
        fits = tasks[i].cycles
        for j in ranks[:ranks.index(i)]:
            jobs = 0
            while jobs * tasks[j].period < r:
                jobs += 1
            fits += jobs * (tasks[j].cycles + retold_cost(tasks, ranks, n, i, j))
        rounds += 1
        if fits > tasks[i].deadline:
            return [1, fits, rounds]
        if fits == r:
            return [0, fits, rounds]
        r = fits


def retold_all(tasks, ranks, n):
    found = [retold_response(tasks, ranks, n, i) for i in ranks]
    answer = [max([one[0] for one in found], default=0)]
    for i, one in zip(ranks, found):
        answer += [i, one[1]]
    return answer


def retold_best(tasks, n):
    for ranks in itertools.permutations(range(len(tasks))):
        if retold_all(tasks, list(ranks), n)[0] == 0:
            return [0] + list(ranks)
    return [1]


def play(tasks, ranks, n, h):
    """All jobs that came before h, which task ran at each time, and each task's reloads."""
    jobs, ran, reloads = [], [], [0] * len(tasks)
    for t in range(h):
        for number, one in enumerate(tasks):
            if t >= one.offset and (t - one.offset) % one.period == 0:
                jobs.append(Job(number, t, one.cycles))
        waiting = [job for job in jobs if job.done_at is None]
        if not waiting:
            ran.append(0)
            continue
        job = min(waiting, key=lambda one: (ranks.index(one.number), one.came))
        ran.append(job.number + 1)
        for other in waiting:
            if other.has_run and other.number != job.number:
                other.lost |= tasks[job.number].used
        if job.has_run:
            extra = n * len(job.lost & tasks[job.number].useful)
            job.takes += extra
            reloads[job.number] += extra
            job.lost = set()
        job.has_run = True
        job.takes -= 1
        if job.takes == 0:
            job.done_at = t + 1
    return jobs, ran, reloads


def late_times(tasks, jobs, h):
    """When, and of which task, a job is late before h."""
    found = []
    for job in jobs:
        by = job.came + tasks[job.number].deadline
        if by < h and (job.done_at is None or job.done_at > by):
            found.append((by, job.number))
    return sorted(found)


def retold_course(tasks, ranks, n, h):
    jobs, ran, reloads = play(tasks, ranks, n, h)
    answer = [0, ran.count(0)]
    for number in range(len(tasks)):
        own = [job for job in jobs if job.number == number]
        times = [job.done_at - job.came for job in own if job.done_at is not None]
        answer += [len(own), len(times), len(late_times(tasks, own, h)),
                   max(times, default=0), min(times, default=0), reloads[number]]
    return answer


def retold_late(tasks, ranks, n, h):
    found = late_times(tasks, play(tasks, ranks, n, h)[0], h)
    return [1, *found[0]] if found else [0]


def choose(source, most_period, share):
    """A task whose cycles are at most a share of its period, in hundredths."""
    period = source.randint(1, most_period)
    deadline = source.randint(max(1, period // 3), period)
    cycles = source.randint(1, max(1, deadline * share // 100))
    useful = source.sample(range(8), source.randint(0, 6))
    used = source.sample(range(8), source.randint(0, 6))
    return period, deadline, cycles, source.choice([0, source.randint(0, 30)]), useful, used


def choose_all(seed):
    """Calls that tell some tasks, and the same for the retelling; the same at each time for one seed."""
    source = random.Random(seed)
    count = source.randint(1, 6)
    share = source.choice([10, 20, 100 // count])
    most_period = source.choice([6, 20, 60, 500])
    chosen = [choose(source, most_period, share) for number in range(count)]
    ranks = source.sample(range(count), count)
    n = source.choice([0, 1, 1, 3])
    calls = [reload(n), *[task(told(*one)) for one in chosen], order(ranks)]
    tasks = [Told((*one[:4], set(one[4]), set(one[5]))) for one in chosen]
    return calls, tasks, ranks, n


class Retold(unittest.TestCase):
    def test_costs_and_responses(self):
        for seed in range(150):
            calls, tasks, ranks, n = choose_all(seed)
            for place, i in enumerate(ranks):
                self.assertEqual(last(*calls, response(i)), retold_response(tasks, ranks, n, i), seed)
                for j in ranks[:place]:
                    self.assertEqual(last(*calls, cost(i, j)), [0, retold_cost(tasks, ranks, n, i, j)], seed)
            self.assertEqual(last(*calls, ALL), retold_all(tasks, ranks, n), seed)

    def test_best(self):
        seen = set()
        for seed in range(150):
            calls, tasks, ranks, n = choose_all(seed)
            answer = retold_best(tasks, n)
            self.assertEqual(last(*calls, BEST), answer, seed)
            seen.add(tuple(answer))
        self.assertGreater(len(seen), 20)

    def test_courses(self):
        for seed in range(150):
            calls, tasks, ranks, n = choose_all(seed)
            h = 20 + seed
            found = run(*calls, course(h), late(h), trace(0, h), trace(h // 3, h // 2))[-4:]
            ran = play(tasks, ranks, n, h)[1]
            self.assertEqual(found[0], retold_course(tasks, ranks, n, h), seed)
            self.assertEqual(found[1], retold_late(tasks, ranks, n, h), seed)
            self.assertEqual(found[2], [0] + ran, seed)
            self.assertEqual(found[3], [0] + ran[h // 3:h // 3 + h // 2], seed)

    def test_every_end_of_one_course(self):
        for seed in (3, 5, 8):
            calls, tasks, ranks, n = choose_all(seed)
            for h in range(60):
                found = run(*calls, course(h), late(h))[-2:]
                self.assertEqual(found, [retold_course(tasks, ranks, n, h), retold_late(tasks, ranks, n, h)], (seed, h))


if __name__ == "__main__":
    unittest.main()
