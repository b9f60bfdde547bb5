import unittest

from helper import LEAST, MOST, RANKS, TASKS, order, plain, retask, run, task, untask

A, B, C, D = plain(9), plain(3), [20, 15, 8, 3, 1, 2, 2, 7, 9], plain(7)
FOUR = [task(A), task(B), task(C), task(D), order([2, 0, 3, 1])]


class Untask(unittest.TestCase):
    def test_numbers_and_order_of_the_others(self):
        left = {
            0: (B + C + D, [1, 2, 0]),
            1: (A + C + D, [1, 0, 2]),
            2: (A + B + D, [0, 2, 1]),
            3: (A + B + C, [2, 0, 1]),
        }
        for i in left:
            with self.subTest(i=i):
                found = run(*FOUR, untask(i), TASKS, RANKS)
                self.assertEqual(found[5:], [[0], [0, 3] + left[i][0], [0] + left[i][1]])

    def test_no_such_task(self):
        for i in (4, 5, -1, -4, LEAST, MOST):
            with self.subTest(i=i):
                found = run(*FOUR, untask(i), TASKS, RANKS)
                self.assertEqual(found[5:], [[-3], [0, 4] + A + B + C + D, [0, 2, 0, 3, 1]])

    def test_no_tasks_at_all(self):
        for i in (0, -1, 1):
            with self.subTest(i=i):
                self.assertEqual(run(untask(i), TASKS, RANKS), [[-3], [0, 0], [0]])

    def test_until_none_is_left(self):
        found = run(*FOUR, untask(1), untask(2), untask(0), RANKS, TASKS, untask(0), untask(0), TASKS, RANKS)
        self.assertEqual(found[5:], [[0], [0], [0], [0, 0], [0, 1] + C, [0], [-3], [0, 0], [0]])

    def test_the_next_task_has_the_freed_number(self):
        found = run(*FOUR, untask(0), task(A), RANKS, retask(3, B), TASKS)
        self.assertEqual(found[6:], [[0, 3], [0, 1, 2, 0, 3], [0], [0, 4] + B + C + D + B])


if __name__ == "__main__":
    unittest.main()
