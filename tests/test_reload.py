import unittest

from helper import FIRST, LEAST, MOST, RANKS, SECOND, TASKS, cost, course, last, plain, reload, run, task


class Reload(unittest.TestCase):
    def test_taken_from_0_to_20(self):
        for n in range(0, 21):
            with self.subTest(n=n):
                self.assertEqual(last(reload(n)), [0])

    def test_refused_beyond(self):
        for n in (-1, 21, -20, 22, 100, LEAST, MOST):
            with self.subTest(n=n):
                self.assertEqual(last(reload(n)), [-7])

    def test_taken_again_and_behind_a_refusal(self):
        self.assertEqual(run(reload(20), reload(21), reload(0), reload(-1), reload(5)),
                         [[0], [-7], [0], [-7], [0]])

    def test_leaves_tasks_and_order(self):
        told = plain(10)
        self.assertEqual(run(task(told), reload(3), reload(21), TASKS, RANKS)[3:],
                         [[0, 1] + told, [0, 0]])

    def test_is_what_a_line_costs_from_then_on(self):
        # The second task may lose two lines to the first: what that costs is asked behind each call.
        asked = [cost(1, 0)]
        for n in (20, 21, -1, 3, MOST, 0):
            asked += [reload(n), cost(1, 0)]
        found = run(task(FIRST), task(SECOND), *asked)
        self.assertEqual(found[2::2], [[0, 0], [0, 40], [0, 40], [0, 40], [0, 6], [0, 6], [0, 0]])

    def test_a_course_reloads_at_that_cost(self):
        for n in (0, 1, 2):
            with self.subTest(n=n):
                self.assertEqual(last(reload(n), task(FIRST), task(SECOND), course(20))[-1], 2 * n)


if __name__ == "__main__":
    unittest.main()
