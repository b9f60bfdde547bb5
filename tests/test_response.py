import unittest

from helper import FIRST, LEAST, MOST, SECOND, last, order, plain, reload, response, run, task, told


class Response(unittest.TestCase):
    def test_the_documents_example(self):
        for n, answer in ((1, [0, 18, 3]), (2, [1, 22, 2]), (0, [0, 14, 3])):
            with self.subTest(n=n):
                self.assertEqual(last(reload(n), task(FIRST), task(SECOND), response(1)), answer)

    def test_the_highest_has_its_cycles_alone(self):
        found = run(reload(20), task(FIRST), task(SECOND), response(0), order([1, 0]), response(1))
        self.assertEqual([found[3], found[5]], [[0, 3, 1], [0, 8, 1]])

    def test_the_highest_with_no_cycle_to_spare(self):
        self.assertEqual(last(task(told(500, 7, 7)), response(0)), [0, 7, 1])
        self.assertEqual(last(task(told(1, 1, 1)), response(0)), [0, 1, 1])

    def test_every_deadline(self):
        # Without one r becomes 13, 18, 18: it is told when it is first above the deadline.
        for deadline in range(8, 21):
            with self.subTest(deadline=deadline):
                answer = [0, 18, 3] if deadline >= 18 else [1, 18, 2] if deadline >= 13 else [1, 13, 1]
                second = told(20, deadline, 8, 0, [1, 2, 3], [1, 2, 3, 4])
                self.assertEqual(last(reload(1), task(FIRST), task(second), response(1)), answer)

    def test_just_in_time_in_the_first_round(self):
        # 2, then 5, 5: at the deadline with the first round already.
        for deadline, answer in ((5, [0, 5, 2]), (4, [1, 5, 1])):
            with self.subTest(deadline=deadline):
                self.assertEqual(last(task(told(9, 9, 3)), task(told(9, deadline, 2)), response(1)), answer)

    def test_a_time_that_just_fills_a_period(self):
        high = task(told(5, 5, 2))
        for cycles, answer in ((3, [0, 5, 2]), (4, [0, 8, 3]), (6, [0, 10, 2]), (5, [0, 9, 3]), (7, [0, 13, 3])):
            with self.subTest(cycles=cycles):
                self.assertEqual(last(high, task(told(50, 50, cycles)), response(1)), answer)

    def test_several_above(self):
        # For the lowest 3, then 7, 10, 12, 12.
        four = [task(told(4, 4, 1)), task(told(6, 6, 2)), task(told(9, 9, 1)), task(told(30, 30, 3))]
        found = run(*four, response(0), response(1), response(2), response(3))
        self.assertEqual(found[4:], [[0, 1, 1], [0, 3, 2], [0, 4, 2], [0, 12, 4]])

    def test_costs_are_those_seen_from_the_task(self):
        # Seen from task 1 task 0 costs 1 line, seen from task 2 it costs 3, as task 1 does.
        three = [task(told(50, 50, 2, 0, [], [1, 2, 3])), task(told(50, 50, 3, 0, [1], [])),
                 task(told(50, 50, 4, 0, [1, 2, 3], []))]
        found = run(reload(2), *three, response(1), response(2))
        self.assertEqual(found[4:], [[0, 2 + 3 + 2, 2], [0, 2 + 6 + 3 + 6 + 4, 2]])

    def test_a_task_between_may_lose_more_than_the_task_itself(self):
        three = [task(told(50, 50, 2, 0, [], [1, 2, 3])), task(told(50, 50, 3, 0, [1, 2, 3], [])),
                 task(told(50, 50, 4, 0, [3], []))]
        self.assertEqual(last(reload(1), *three, response(2)), [0, 2 + 3 + 3 + 1 + 4, 2])

    def test_a_cost_counts_with_each_job_above(self):
        # 3, then 7, 11, 15, 15: a cycle and three lines for each 5 cycles.
        two = [task(told(5, 5, 1, 0, [], [1, 2, 3])), task(told(50, 50, 3, 0, [1, 2, 3], []))]
        self.assertEqual(last(reload(1), *two, response(1)), [0, 15, 4])

    def test_those_below_and_offsets_do_not_count(self):
        three = [task(told(10, 10, 3, 500)), task(told(20, 20, 8, 7)), task(told(5, 5, 5, 0, [1], [1]))]
        self.assertEqual(last(*three, response(1)), [0, 14, 3])

    def test_by_the_order(self):
        # For task 1 9, then 20, 23, 34, 37, 37.
        three = [task(told(20, 20, 8)), task(told(50, 50, 9)), task(told(10, 10, 3))]
        found = run(*three, order([2, 0, 1]), response(0), response(1), response(2))
        self.assertEqual(found[4:], [[0, 14, 3], [0, 37, 5], [0, 3, 1]])

    def test_many_rounds(self):
        # A task that takes every cycle lets r grow by 1 a round.
        for deadline in (1, 2, 499, 500):
            with self.subTest(deadline=deadline):
                self.assertEqual(last(task(told(1, 1, 1)), task(told(500, deadline, 1)), response(1)),
                                 [1, deadline + 1, deadline])

    def test_no_such_task(self):
        for i in (-1, 2, 3, 6, -2, LEAST, MOST):
            with self.subTest(i=i):
                self.assertEqual(last(task(plain(9)), task(plain(3)), response(i)), [-3])

    def test_no_tasks_at_all(self):
        self.assertEqual(run(response(0), response(-1), response(1)), [[-3]] * 3)


if __name__ == "__main__":
    unittest.main()
