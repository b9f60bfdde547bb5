import unittest

from helper import (MOST, RANKS, TASKS, cost, course, late, order, plain, reload, response, retask, run, sort, task,
                    trace, untask)

A, B = [20, 15, 8, 3, 3, 9, 2, 5, 2, 7, 1], [10, 10, 3, 500, 0, 0]

REFUSED = {
    "reload": (reload(21), -7),
    "task": (task([1, 2, 3]), -12),
    "retask, no task": (retask(2, B), -3),
    "retask, no list": (retask(0, [1, 2, 3]), -12),
    "untask": (untask(2), -3),
    "order": (order([0, 0]), -12),
    "sorted": (sort(2), -5),
    "cost, no task": (cost(0, 2), -3),
    "cost, not above": (cost(1, 0), -4),
    "response": (response(2), -3),
    "course": (course(3001), -7),
    "trace": (trace(3000, 1), -7),
    "late": (late(-1), -7),
}


class TasksAndRanks(unittest.TestCase):
    def test_with_no_tasks(self):
        self.assertEqual(run(TASKS, RANKS), [[0, 0], [0]])

    def test_with_one(self):
        self.assertEqual(run(task(A), TASKS, RANKS)[1:], [[0, 1] + A, [0, 0]])

    def test_tasks_go_by_number_and_ranks_by_order(self):
        found = run(task(A), task(B), order([1, 0]), TASKS, RANKS)
        self.assertEqual(found[3:], [[0, 2] + A + B, [0, 1, 0]])

    def test_asking_changes_nothing(self):
        found = run(task(A), task(B), order([1, 0]), TASKS, RANKS, TASKS, RANKS)
        self.assertEqual(found[3:5], found[5:7])

    def test_the_greatest_answer(self):
        lines = list(range(31, -1, -1))
        told = [500, 500, 500, 500, 32] + lines + [32] + lines
        found = run(*[task(told)] * 6, TASKS)
        self.assertEqual(found[6], [0, 6] + told * 6)

    def test_a_refused_call_leaves_the_object_as_it_was(self):
        for name in REFUSED:
            with self.subTest(name):
                call, refusal = REFUSED[name]
                found = run(reload(2), task(A), task(B), order([1, 0]), call, TASKS, RANKS)
                self.assertEqual(found[4:], [[refusal], [0, 2] + A + B, [0, 1, 0]])

    def test_a_refused_seventh_task_leaves_the_object_as_it_was(self):
        six = [task(plain(period)) for period in (6, 5, 4, 3, 2, 1)]
        found = run(*six, sort(0), TASKS, task(A), TASKS, RANKS)
        self.assertEqual(found[8], [-9])
        self.assertEqual(found[9], found[7])
        self.assertEqual(found[10], [0, 5, 4, 3, 2, 1, 0])

    def test_many_refused_calls_one_behind_another(self):
        calls = [call for call, refusal in REFUSED.values()] * 2
        found = run(task(A), task(B), order([1, 0]), *calls, untask(MOST), TASKS, RANKS)
        self.assertEqual(found[3:-3], [[refusal] for call, refusal in REFUSED.values()] * 2)
        self.assertEqual(found[-2:], [[0, 2] + A + B, [0, 1, 0]])


if __name__ == "__main__":
    unittest.main()
