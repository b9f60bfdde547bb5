import itertools
import unittest

from helper import ALL, BEST, FIRST, RANKS, SECOND, last, order, reload, response, run, sort, task, told

EVERY = list(range(32))


class All(unittest.TestCase):
    def test_the_documents_example(self):
        two = [reload(1), task(FIRST), task(SECOND)]
        self.assertEqual(last(*two, ALL), [0, 0, 3, 1, 18])
        self.assertEqual(last(*two, order([1, 0]), ALL), [1, 1, 8, 0, 11])

    def test_no_tasks(self):
        self.assertEqual(run(ALL), [[0]])

    def test_one_task(self):
        self.assertEqual(last(task(told(9, 6, 6)), ALL), [0, 0, 6])

    def test_each_of_them_may_be_the_one_that_is_not_in_time(self):
        # Cycles 2, 3 and 4 are in time with deadlines of 2, 5 and 9.
        for deadlines, first in (((2, 5, 9), 0), ((2, 4, 9), 1), ((2, 5, 8), 1), ((2, 4, 8), 1)):
            with self.subTest(deadlines=deadlines):
                three = [task(told(50, deadline, cycles)) for deadline, cycles in zip(deadlines, (2, 3, 4))]
                self.assertEqual(last(*three, ALL), [first, 0, 2, 1, 5, 2, 9])

    def test_the_first_r_above_the_deadline(self):
        self.assertEqual(last(reload(2), task(FIRST), task(SECOND), ALL), [1, 0, 3, 1, 22])

    def test_those_behind_one_that_is_not_in_time_are_told_too(self):
        three = [task(told(9, 9, 4)), task(told(9, 6, 5)), task(told(40, 40, 1))]
        # For the lowest 1, then 10, 19, 28, 37, 46.
        self.assertEqual(last(*three, ALL), [1, 0, 4, 1, 9, 2, 46])

    def test_in_their_order(self):
        four = [task(told(60, 60, cycles)) for cycles in (1, 2, 4, 8)]
        self.assertEqual(last(*four, order([2, 0, 3, 1]), ALL), [0, 2, 4, 0, 5, 3, 13, 1, 15])

    def test_six_tasks_one_by_one(self):
        six = [task(told(100 - 7 * k, 80 - 7 * k, 3 + k, k, EVERY[k:9], EVERY[2 * k:12])) for k in range(6)]
        for n in (0, 1, 5):
            for tasks in itertools.permutations(range(6)):
                if tasks[0] < tasks[-1]:
                    continue
                found = run(reload(n), *six, order(list(tasks)), ALL, *[response(i) for i in tasks])
                answer = [max(told_one[0] for told_one in found[9:])]
                for i, told_one in zip(tasks, found[9:]):
                    answer.extend([i, told_one[1]])
                self.assertEqual(found[8], answer, tasks)


class Best(unittest.TestCase):
    def test_the_documents_example(self):
        two = [reload(1), task(FIRST), task(SECOND)]
        self.assertEqual(last(*two, BEST), [0, 0, 1])
        self.assertEqual(last(*two, order([1, 0]), BEST), [0, 0, 1])

    def test_no_tasks(self):
        self.assertEqual(run(BEST), [[0]])

    def test_one_task(self):
        self.assertEqual(last(task(told(9, 6, 6)), BEST), [0, 0])

    def test_the_first_of_all_orders(self):
        self.assertEqual(last(*[task(told(60, 60, 10))] * 6, order([5, 4, 3, 2, 1, 0]), BEST), [0, 0, 1, 2, 3, 4, 5])

    def test_the_only_order(self):
        for tasks in itertools.permutations(range(4)):
            with self.subTest(tasks=tasks):
                deadlines = [4 * tasks.index(i) + 4 for i in range(4)]
                four = [task(told(50, deadline, 4)) for deadline in deadlines]
                self.assertEqual(last(*four, BEST), [0] + list(tasks))

    def test_the_first_of_several(self):
        # The task of 9 cycles takes more than the two with a deadline of 4 can wait.
        four = [task(told(50, 50, 9)), task(told(50, 50, 1)), task(told(50, 4, 2)), task(told(50, 4, 1))]
        self.assertEqual(last(*four, BEST), [0, 1, 2, 3, 0])
        self.assertEqual(last(four[0], four[2], four[3], four[1], BEST), [0, 1, 2, 0, 3])

    def test_an_order_that_is_neither_by_period_nor_by_deadline(self):
        # With task 0 above it task 1 loses 6 lines; the other way round nothing is lost.
        two = [task(told(10, 10, 4, 0, [], EVERY[:6])), task(told(20, 20, 6, 0, EVERY[:6], []))]
        found = run(reload(2), *two, sort(0), ALL, sort(1), ALL, BEST)
        self.assertEqual([found[4], found[6], found[7]], [[1, 0, 4, 1, 22], [1, 0, 4, 1, 22], [0, 1, 0]])

    def test_none(self):
        self.assertEqual(last(task(told(9, 5, 5)), task(told(9, 5, 5)), BEST), [1])
        self.assertEqual(last(*[task(told(500, 500, 84))] * 6, BEST), [1])

    def test_none_when_a_later_round_goes_above_a_deadline(self):
        # For the second task below the first one 8, then 15, 22; for the first below the second one 3, then 11.
        self.assertEqual(last(reload(2), task(FIRST), task(SECOND), BEST), [1])

    def test_costs_count(self):
        two = [task(told(50, 9, 5, 0, EVERY, EVERY)), task(told(50, 10, 5, 0, EVERY, EVERY))]
        self.assertEqual(run(*two, BEST, reload(1), BEST)[2:], [[0, 0, 1], [0], [1]])

    def test_the_order_held_stays(self):
        three = [task(told(50, 50, 9)), task(told(50, 4, 2)), task(told(50, 4, 1))]
        found = run(*three, order([0, 2, 1]), BEST, RANKS, ALL)
        self.assertEqual(found[4:], [[0, 1, 2, 0], [0, 0, 2, 1], [1, 0, 9, 2, 10, 1, 12]])

    def test_the_order_held_is_not_asked(self):
        three = [task(told(50, 50, 9)), task(told(50, 4, 2)), task(told(50, 4, 1))]
        for tasks in itertools.permutations(range(3)):
            with self.subTest(tasks=tasks):
                self.assertEqual(last(*three, order(list(tasks)), BEST), [0, 1, 2, 0])

    def test_against_every_order(self):
        # The deadlines grow together, and from one task to the next: at first no order is left, at last every one.
        seen = set()
        for slack in range(8, 70, 2):
            turn = slack // 2
            five = [task(told(200, min(200, slack + 13 * ((k * 3 + turn) % 5)), 4 + k, 0,
                              EVERY[k:2 * k + 3], EVERY[3 * k:3 * k + 6])) for k in range(5)]
            answer = [1]
            for tasks in itertools.permutations(range(5)):
                if last(reload(2), *five, order(list(tasks)), ALL)[0] == 0:
                    answer = [0] + list(tasks)
                    break
            self.assertEqual(last(reload(2), *five, BEST), answer, slack)
            seen.add(tuple(answer))
        self.assertGreater(len(seen), 9)
        self.assertIn((1,), seen)
        self.assertIn((0, 0, 1, 2, 3, 4), seen)


if __name__ == "__main__":
    unittest.main()
