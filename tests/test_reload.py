import unittest

from helper import LEAST, MOST, RANKS, TASKS, last, plain, reload, run, task

from cachetasks.held import Held


class Reload(unittest.TestCase):
    def test_taken_from_0_to_20(self):
        for n in range(0, 21):
            with self.subTest(n=n):
                self.assertEqual(last(reload(n)), [0])

    def test_refused_beyond(self):
        for n in (-1, 21, -20, 22, 100, LEAST, MOST):
            with self.subTest(n=n):
                self.assertEqual(last(reload(n)), [-7])

    def test_taken_again_and_behind_a_refusal(self):
        self.assertEqual(run(reload(20), reload(21), reload(0), reload(-1), reload(5)),
                         [[0], [-7], [0], [-7], [0]])

    def test_leaves_tasks_and_order(self):
        told = plain(10)
        self.assertEqual(run(task(told), reload(3), reload(21), TASKS, RANKS)[3:],
                         [[0, 1] + told, [0, 0]])

    def test_is_what_a_line_costs_from_then_on(self):
        # No call of this stage answers what is held here, so the object is asked itself.
        held = Held()
        self.assertEqual(held.line_cost, 0)
        held.set_reload(20)
        self.assertEqual(held.line_cost, 20)
        held.set_reload(21)
        held.set_reload(-1)
        self.assertEqual(held.line_cost, 20)
        held.set_reload(0)
        self.assertEqual(held.line_cost, 0)


if __name__ == "__main__":
    unittest.main()
