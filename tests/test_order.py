import itertools
import unittest

from helper import LEAST, MOST, RANKS, TASKS, last, order, plain, retask, run, sort, task, untask

WRONG = {
    "empty": [],
    "one missing": [0, 1],
    "one missing, the greatest alone": [2],
    "one twice": [0, 1, 1],
    "one twice beside all": [0, 1, 2, 2],
    "one that is not there": [0, 1, 3],
    "one that is not there beside all": [0, 1, 2, 3],
    "from 1 on": [1, 2, 3],
    "one below 0": [0, 1, -1],
    "one below 0 beside all": [-1, 0, 1, 2],
    "least": [0, 1, LEAST],
    "most": [MOST, 1, 2],
    "sum as it should be": [1, 1, 1],
    "200 numbers": [0] * 200,
}


class Order(unittest.TestCase):
    def setUp(self):
        self.three = [task(plain(9)), task(plain(3)), task(plain(7))]
        self.told = [0, 3] + plain(9) + plain(3) + plain(7)

    def test_every_order_of_three(self):
        for tasks in itertools.permutations(range(3)):
            with self.subTest(tasks=tasks):
                found = run(*self.three, order(list(tasks)), RANKS, TASKS)
                self.assertEqual(found[3:], [[0], [0] + list(tasks), self.told])

    def test_six_tasks(self):
        six = [task(plain(period)) for period in range(1, 7)]
        self.assertEqual(run(*six, order([5, 0, 4, 1, 3, 2]), RANKS)[6:], [[0], [0, 5, 0, 4, 1, 3, 2]])

    def test_the_empty_order_of_no_tasks(self):
        self.assertEqual(run(order([]), RANKS), [[0], [0]])

    def test_no_tasks_and_a_number(self):
        for number in (0, 1, -1, LEAST, MOST):
            with self.subTest(number=number):
                self.assertEqual(run(order([number]), RANKS), [[-12], [0]])

    def test_wrong_lists(self):
        for name, tasks in WRONG.items():
            with self.subTest(name):
                found = run(*self.three, order([2, 0, 1]), order(tasks), RANKS, TASKS)
                self.assertEqual(found[4:], [[-12], [0, 2, 0, 1], self.told])

    def test_the_last_one_holds(self):
        found = run(*self.three, order([2, 1, 0]), order([1, 2, 0]), RANKS)
        self.assertEqual(found[5], [0, 1, 2, 0])


class Sorted(unittest.TestCase):
    def setUp(self):
        # Periods 9, 3, 9, 5, 3 and deadlines 1, 3, 2, 1, 2: both orders have ties, and differ.
        self.told = [plain(9, 1), plain(3, 3), plain(9, 2), plain(5, 1), plain(3, 2)]
        self.five = [task(numbers) for numbers in self.told]

    def test_by_the_periods(self):
        self.assertEqual(run(*self.five, sort(0), RANKS)[5:], [[0, 1, 4, 3, 0, 2]] * 2)

    def test_by_the_deadlines(self):
        self.assertEqual(run(*self.five, sort(1), RANKS)[5:], [[0, 0, 3, 2, 4, 1]] * 2)

    def test_ties_do_not_ask_what_the_order_was(self):
        for tasks in itertools.permutations(range(5)):
            found = run(*self.five, order(list(tasks)), sort(0), RANKS, order(list(tasks)), sort(1), RANKS)
            self.assertEqual(found[6:8], [[0, 1, 4, 3, 0, 2]] * 2, tasks)
            self.assertEqual(found[9:], [[0, 0, 3, 2, 4, 1]] * 2, tasks)

    def test_all_the_same(self):
        same = [task(plain(4, 2))] * 6
        for kind in (0, 1):
            with self.subTest(kind=kind):
                found = run(*same, order([5, 4, 3, 2, 1, 0]), sort(kind), RANKS)
                self.assertEqual(found[7:], [[0, 0, 1, 2, 3, 4, 5]] * 2)

    def test_neither_cycles_nor_offset_count(self):
        told = [[10, 9, 5, 7, 0, 0], [10, 9, 1, 0, 0, 0]]
        for kind in (0, 1):
            with self.subTest(kind=kind):
                self.assertEqual(last(task(told[0]), task(told[1]), sort(kind)), [0, 0, 1])

    def test_tasks_keep_their_numbers(self):
        found = run(*self.five, sort(0), TASKS, sort(1), TASKS)
        told = [0, 5] + [number for numbers in self.told for number in numbers]
        self.assertEqual([found[6], found[8]], [told, told])

    def test_other_kinds(self):
        for kind in (-1, 2, 3, LEAST, MOST):
            with self.subTest(kind=kind):
                found = run(*self.five, order([4, 3, 2, 1, 0]), sort(kind), RANKS)
                self.assertEqual(found[6:], [[-5], [0, 4, 3, 2, 1, 0]])

    def test_no_tasks(self):
        self.assertEqual(run(sort(0), sort(1), sort(2), RANKS), [[0], [0], [-5], [0]])

    def test_sorts_what_is_held_then(self):
        found = run(*self.five, sort(0), retask(0, plain(1)), RANKS, sort(0), untask(4), sort(0))
        self.assertEqual(found[7:], [[0, 1, 4, 3, 0, 2], [0, 0, 1, 4, 3, 2], [0], [0, 0, 1, 3, 2]])

    def test_a_task_that_comes_later_is_the_lowest(self):
        self.assertEqual(last(*self.five, sort(0), task(plain(1)), RANKS), [0, 1, 4, 3, 0, 2, 5])


if __name__ == "__main__":
    unittest.main()
