import unittest

from helper import LEAST, MOST, RANKS, TASKS, last, order, plain, retask, run, task
from test_task import REFUSED, TAKEN

A, B, C, NEW = plain(9), plain(3), plain(7), [20, 15, 8, 3, 3, 1, 2, 3, 2, 7, 9]
THREE = [task(A), task(B), task(C), order([2, 0, 1])]


class Retask(unittest.TestCase):
    def test_the_task_is_the_new_one_and_the_order_stays(self):
        told = {0: NEW + B + C, 1: A + NEW + C, 2: A + B + NEW}
        for i in told:
            with self.subTest(i=i):
                found = run(*THREE, retask(i, NEW), TASKS, RANKS)
                self.assertEqual(found[4:], [[0], [0, 3] + told[i], [0, 2, 0, 1]])

    def test_every_task_that_task_takes(self):
        for name, numbers in TAKEN.items():
            with self.subTest(name):
                self.assertEqual(run(task(A), retask(0, numbers), TASKS)[1:], [[0], [0, 1] + numbers])

    def test_no_such_task(self):
        for i in (3, 4, 6, -1, -2, -3, LEAST, MOST):
            with self.subTest(i=i):
                found = run(*THREE, retask(i, NEW), TASKS, RANKS)
                self.assertEqual(found[4:], [[-3], [0, 3] + A + B + C, [0, 2, 0, 1]])

    def test_no_tasks_at_all(self):
        for i in (0, 1, -1):
            with self.subTest(i=i):
                self.assertEqual(run(retask(i, NEW), TASKS, RANKS), [[-3], [0, 0], [0]])

    def test_a_wrong_list(self):
        for name, numbers in REFUSED.items():
            with self.subTest(name):
                found = run(*THREE, retask(1, numbers), TASKS, RANKS)
                self.assertEqual(found[4:], [[-12], [0, 3] + A + B + C, [0, 2, 0, 1]])

    def test_no_such_task_is_told_first(self):
        for name, numbers in REFUSED.items():
            for i in (-1, 3, MOST):
                with self.subTest(name, i=i):
                    self.assertEqual(last(*THREE, retask(i, numbers)), [-3])

    def test_taken_with_six_tasks(self):
        found = run(*[task(A)] * 6, retask(5, NEW), TASKS)
        self.assertEqual(found[6:], [[0], [0, 6] + A * 5 + NEW])


if __name__ == "__main__":
    unittest.main()
