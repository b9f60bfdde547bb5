import unittest

from helper import FIRST, LEAST, MOST, SECOND, cost, last, order, plain, reload, retask, run, task, told, untask


def lines(useful=(), used=()):
    """A task of which the lines alone matter."""
    return task(told(10, 10, 1, 0, useful, used))


class Cost(unittest.TestCase):
    def test_the_documents_example(self):
        self.assertEqual(last(reload(1), task(FIRST), task(SECOND), cost(1, 0)), [0, 2])

    def test_each_line_costs_what_reloading_costs(self):
        for n in (0, 1, 2, 7, 20):
            with self.subTest(n=n):
                self.assertEqual(last(reload(n), task(FIRST), task(SECOND), cost(1, 0)), [0, 2 * n])

    def test_nothing_before_reload_is_called(self):
        self.assertEqual(last(task(FIRST), task(SECOND), cost(1, 0)), [0, 0])

    def test_the_greatest_count_of_those_between(self):
        four = [lines(used=[1, 2, 3, 4, 5, 6]), lines([1, 2, 3, 9]), lines([1, 2, 3, 4, 5]), lines([6])]
        found = run(reload(3), *four, cost(1, 0), cost(2, 0), cost(3, 0), cost(2, 1), cost(3, 1), cost(3, 2))
        self.assertEqual(found[5:], [[0, 9], [0, 15], [0, 15], [0, 15], [0, 15], [0, 3]])

    def test_the_count_of_the_task_itself_may_be_the_greatest(self):
        three = [lines(used=[1, 2, 3]), lines([1]), lines([1, 2, 3])]
        self.assertEqual(run(reload(1), *three, cost(1, 0), cost(2, 0))[4:], [[0, 1], [0, 3]])

    def test_lines_that_those_above_use(self):
        four = [lines(used=[1, 2]), lines(used=[2, 3]), lines(used=[4]), lines([1, 2, 3, 4, 5])]
        found = run(reload(1), *four, cost(3, 0), cost(3, 1), cost(3, 2))
        self.assertEqual(found[5:], [[0, 2], [0, 3], [0, 4]])

    def test_lines_that_those_below_use_do_not_count(self):
        three = [lines(used=[1]), lines([1, 2, 3], [2]), lines([1, 2, 3], [1, 2, 3])]
        found = run(reload(1), *three, cost(1, 0), cost(2, 0), cost(2, 1))
        self.assertEqual(found[4:], [[0, 1], [0, 1], [0, 2]])

    def test_useful_lines_of_the_one_above_and_of_those_above_it_do_not_count(self):
        three = [lines([1, 2, 3], [1, 2, 3]), lines([1, 2], [1, 2, 3]), lines([1])]
        self.assertEqual(last(reload(1), *three, cost(2, 1)), [0, 1])

    def test_useful_lines_of_those_below_do_not_count(self):
        three = [lines(used=[1, 2, 3]), lines([1]), lines([1, 2, 3])]
        self.assertEqual(last(reload(1), *three, cost(1, 0)), [0, 1])

    def test_useful_lines_that_no_one_uses(self):
        two = [lines(used=[1, 2]), lines([3, 4, 0, 31], [3, 4])]
        self.assertEqual(last(reload(20), *two, cost(1, 0)), [0, 0])

    def test_used_lines_that_are_not_useful_to_any(self):
        two = [lines([1, 2], [1, 2]), lines([], [1, 2])]
        self.assertEqual(last(reload(20), *two, cost(1, 0)), [0, 0])

    def test_all_lines_at_the_greatest_cost(self):
        every = list(range(32))
        self.assertEqual(last(reload(20), lines(used=every), lines(every[::-1]), cost(1, 0)), [0, 640])

    def test_above_is_by_the_order_not_by_the_number(self):
        two = [lines([1, 2, 3], [4, 5, 6, 7]), lines([4, 5], [1])]
        found = run(reload(1), *two, cost(1, 0), cost(0, 1), order([1, 0]), cost(1, 0), cost(0, 1))
        self.assertEqual(found[3:], [[0, 2], [-4], [0], [-4], [0, 1]])

    def test_between_is_by_the_order_too(self):
        four = [lines([1]), lines(used=[1, 2, 3]), lines([1, 2]), lines([1, 2, 3])]
        found = run(reload(1), *four, order([1, 2, 0, 3]), cost(0, 1), cost(2, 1), cost(3, 1), cost(3, 2))
        self.assertEqual(found[6:], [[0, 2], [0, 2], [0, 3], [0, 3]])

    def test_asks_what_is_held_then(self):
        found = run(reload(1), task(FIRST), task(SECOND), retask(0, told(10, 10, 3, 0, [], [1, 2, 3])), cost(1, 0),
                    reload(4), cost(1, 0), reload(21), cost(1, 0), untask(0), cost(1, 0))
        self.assertEqual([found[4], found[6], found[8], found[10]], [[0, 3], [0, 12], [0, 12], [-3]])


class Refused(unittest.TestCase):
    def setUp(self):
        self.three = [task(plain(9)), task(plain(3)), task(plain(7))]

    def test_no_first_task(self):
        for i in (-1, 3, 4, 6, -3, LEAST, MOST):
            with self.subTest(i=i):
                self.assertEqual(last(*self.three, cost(i, 0)), [-3])

    def test_no_second_task(self):
        for j in (-1, 3, 4, 6, -3, LEAST, MOST):
            with self.subTest(j=j):
                self.assertEqual(last(*self.three, cost(2, j)), [-3])

    def test_neither_is_there(self):
        for i in (-1, 3, LEAST, MOST):
            for j in (-1, 3, LEAST, MOST):
                with self.subTest(i=i, j=j):
                    self.assertEqual(last(*self.three, cost(i, j)), [-3])

    def test_no_such_task_is_told_before_not_above(self):
        # The highest task has none above it, and the lowest is above none.
        for other in (-1, 3):
            with self.subTest(other=other):
                self.assertEqual(run(*self.three, cost(0, other), cost(other, 2))[3:], [[-3], [-3]])

    def test_no_tasks_at_all(self):
        self.assertEqual(run(cost(0, 0), cost(1, 0), cost(0, 1)), [[-3]] * 3)

    def test_not_above(self):
        for i, j in ((0, 1), (0, 2), (1, 2)):
            with self.subTest(i=i, j=j):
                self.assertEqual(last(*self.three, cost(i, j)), [-4])
                self.assertEqual(last(*self.three, cost(j, i)), [0, 0])
                self.assertEqual(last(*self.three, order([2, 1, 0]), cost(j, i)), [-4])
                self.assertEqual(last(*self.three, order([2, 1, 0]), cost(i, j)), [0, 0])

    def test_the_same_is_not_above(self):
        for i in range(3):
            with self.subTest(i=i):
                self.assertEqual(last(*self.three, cost(i, i)), [-4])
        self.assertEqual(last(task(plain(9)), cost(0, 0)), [-4])


if __name__ == "__main__":
    unittest.main()
