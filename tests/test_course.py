import unittest

from helper import FIRST, LEAST, MOST, SECOND, course, last, order, reload, run, task, told


class Counts(unittest.TestCase):
    def test_the_documents_example(self):
        self.assertEqual(last(reload(1), task(FIRST), task(SECOND), course(20)),
                         [0, 4, 2, 2, 0, 3, 3, 0, 1, 1, 0, 16, 16, 2])

    def test_no_tasks(self):
        for h in (0, 1, 200, 2999, 3000):
            with self.subTest(h=h):
                self.assertEqual(run(course(h)), [[0, h]])

    def test_no_cycles(self):
        self.assertEqual(last(task(FIRST), course(0)), [0, 0] + [0] * 6)
        self.assertEqual(last(*[task(told(1, 1, 1))] * 6, course(0)), [0, 0] + [0] * 36)

    def test_one_cycle(self):
        two = [task(told(5, 5, 1)), task(told(5, 5, 1))]
        self.assertEqual(last(*two, course(1)), [0, 0, 1, 1, 0, 1, 1, 0, 1, 0, 0, 0, 0, 0])
        self.assertEqual(last(*two, order([1, 0]), course(1)), [0, 0, 1, 0, 0, 0, 0, 0, 1, 1, 0, 1, 1, 0])

    def test_offsets(self):
        five = task(told(9, 9, 2, 5))
        answers = {
            4: [0, 4, 0, 0, 0, 0, 0, 0],
            5: [0, 5, 0, 0, 0, 0, 0, 0],
            6: [0, 5, 1, 0, 0, 0, 0, 0],
            7: [0, 5, 1, 1, 0, 2, 2, 0],
            14: [0, 12, 1, 1, 0, 2, 2, 0],
            15: [0, 12, 2, 1, 0, 2, 2, 0],
        }
        for h, answer in answers.items():
            with self.subTest(h=h):
                self.assertEqual(last(five, course(h)), answer)

    def test_an_offset_beyond_the_period(self):
        self.assertEqual(last(task(told(10, 10, 1, 500)), course(500)), [0, 500, 0, 0, 0, 0, 0, 0])
        self.assertEqual(last(task(told(10, 10, 1, 500)), course(521)), [0, 518, 3, 3, 0, 1, 1, 0])

    def test_a_period_of_1(self):
        self.assertEqual(last(task(told(1, 1, 1)), course(3000)), [0, 0, 3000, 3000, 0, 1, 1, 0])

    def test_by_number_whatever_the_order(self):
        # Task 2 runs at 0, task 0 at 1 to 2, task 1 at 3 to 5.
        three = [task(told(50, 50, 2)), task(told(50, 50, 3)), task(told(50, 50, 1))]
        self.assertEqual(last(*three, order([2, 0, 1]), course(10)),
                         [0, 4, 1, 1, 0, 3, 3, 0, 1, 1, 0, 6, 6, 0, 1, 1, 0, 1, 1, 0])

    def test_several_jobs_of_one_task_wait(self):
        # Task 1 has the cycles 5, 11, 17 and 23: its first job takes 5 and 11, its second 17 and 23.
        two = [task(told(6, 6, 5)), task(told(3, 3, 2))]
        answers = {
            11: [0, 0, 2, 2, 0, 5, 5, 0, 4, 0, 3, 0, 0, 0],
            12: [0, 0, 2, 2, 0, 5, 5, 0, 4, 1, 3, 12, 12, 0],
            23: [0, 0, 4, 4, 0, 5, 5, 0, 8, 1, 7, 12, 12, 0],
            24: [0, 0, 4, 4, 0, 5, 5, 0, 8, 2, 7, 21, 12, 0],
        }
        for h, answer in answers.items():
            with self.subTest(h=h):
                self.assertEqual(last(*two, course(h)), answer)

    def test_the_greatest_and_the_least_time(self):
        # The jobs of task 1 take 2, then 5, as task 0 runs from 5 to 7, then 3.
        two = [task(told(90, 90, 3, 5)), task(told(4, 4, 2))]
        answers = {
            1: [0, 0, 0, 0, 0, 0, 0, 0, 1, 0, 0, 0, 0, 0],
            2: [0, 0, 0, 0, 0, 0, 0, 0, 1, 1, 0, 2, 2, 0],
            8: [0, 2, 1, 1, 0, 3, 3, 0, 2, 1, 0, 2, 2, 0],
            9: [0, 2, 1, 1, 0, 3, 3, 0, 3, 2, 1, 5, 2, 0],
            11: [0, 2, 1, 1, 0, 3, 3, 0, 3, 3, 1, 5, 2, 0],
        }
        for h, answer in answers.items():
            with self.subTest(h=h):
                self.assertEqual(last(*two, course(h)), answer)

    def test_the_least_time_comes_later(self):
        # The jobs of task 1 take 6 first, as task 0 runs from 0 to 3, then 2.
        two = [task(told(90, 90, 4)), task(told(10, 10, 2))]
        self.assertEqual(last(*two, course(12))[8:], [2, 2, 0, 6, 2, 0])


class Late(unittest.TestCase):
    def test_just_in_time(self):
        answers = {4: [1, 0, 0, 0, 0, 0], 5: [1, 1, 0, 5, 5, 0], 6: [2, 1, 0, 5, 5, 0], 10: [2, 2, 0, 5, 5, 0]}
        for h, answer in answers.items():
            with self.subTest(h=h):
                self.assertEqual(last(task(told(5, 5, 5)), course(h)), [0, 0] + answer)

    def test_one_cycle_too_late(self):
        # Task 1 runs from 1 to 5: it isn't done at 5, which is its deadline.
        two = [task(told(90, 90, 1)), task(told(90, 5, 5))]
        answers = {4: [1, 0, 0, 0, 0, 0], 5: [1, 0, 0, 0, 0, 0], 6: [1, 1, 1, 6, 6, 0], 7: [1, 1, 1, 6, 6, 0]}
        for h, answer in answers.items():
            with self.subTest(h=h):
                self.assertEqual(last(*two, course(h))[8:], answer)

    def test_in_time_with_a_deadline_one_later(self):
        two = [task(told(90, 90, 1)), task(told(90, 6, 5))]
        for h in (6, 7, 8):
            with self.subTest(h=h):
                self.assertEqual(last(*two, course(h))[8:], [1, 1, 0, 6, 6, 0])

    def test_a_job_that_never_runs_is_late_once(self):
        two = [task(told(1, 1, 1)), task(told(100, 7, 1, 3))]
        for h, late in ((10, 0), (11, 1), (50, 1), (103, 1), (110, 1), (111, 2), (3000, 30)):
            with self.subTest(h=h):
                came = 0 if h <= 3 else 1 + (h - 4) // 100
                self.assertEqual(last(*two, course(h))[8:], [came, 0, late, 0, 0, 0])

    def test_a_job_waits_behind_a_late_one(self):
        # Task 1 gets one cycle of three from 2 on, and each of its jobs takes 2.
        high = task(told(3, 3, 2))
        # Its first job is done at 6, the second, which came at 7, at 12, the third, which came at 14, at 18.
        self.assertEqual(last(high, task(told(7, 7, 2)), course(22))[8:], [4, 3, 0, 6, 4, 0])
        # Done at 6, 12, 18, 24, and late at 5, 10, 15, 20.
        self.assertEqual(last(high, task(told(5, 5, 2)), course(24))[8:], [5, 4, 4, 9, 6, 0])


class Reloads(unittest.TestCase):
    def test_what_reloading_costs(self):
        # The second task needs 8 cycles: 3 to 9, and 1 behind the reloads from 13 on.
        for n in (0, 1, 2):
            with self.subTest(n=n):
                self.assertEqual(last(reload(n), task(FIRST), task(SECOND), course(20))[8:],
                                 [1, 1, 0, 14 + 2 * n, 14 + 2 * n, 2 * n])

    def test_preempted_again_while_it_reloads(self):
        two = [reload(10), task(told(5, 5, 1, 1, [], [1, 2])), task(told(90, 90, 2, 0, [1, 2], []))]
        for h, reloads in ((1, 0), (2, 0), (3, 20), (7, 20), (8, 40), (12, 40), (13, 60)):
            with self.subTest(h=h):
                self.assertEqual(last(*two, course(h))[8:], [1, 0, 0, 0, 0, reloads])

    def test_several_times_by_several_tasks(self):
        # Task 2 runs at 0, reloads the lines 1 and 2 at 3, and the line 1 alone at 12; it's done at 15.
        three = [reload(2), task(told(10, 10, 1, 1, [], [1])), task(told(20, 20, 1, 2, [], [2])),
                 task(told(90, 90, 6, 0, [1, 2, 3], [1, 2, 3]))]
        answers = {3: [1, 0, 0, 0, 0, 0], 4: [1, 0, 0, 0, 0, 4], 12: [1, 0, 0, 0, 0, 4], 13: [1, 0, 0, 0, 0, 6],
                   14: [1, 0, 0, 0, 0, 6], 15: [1, 1, 0, 15, 15, 6], 40: [1, 1, 0, 15, 15, 6]}
        for h, answer in answers.items():
            with self.subTest(h=h):
                self.assertEqual(last(*three, course(h))[14:], answer)

    def test_one_within_another(self):
        # Task 0 runs at 0, task 1 at 1, task 2 at 2, then 1 goes on and reloads 1, then 0 goes on and reloads 1 and 2.
        three = [reload(1), task(told(90, 90, 3, 0, [1, 2, 3], [])), task(told(90, 90, 2, 1, [1, 2], [2])),
                 task(told(90, 90, 1, 2, [], [1])), order([2, 1, 0])]
        self.assertEqual(last(*three, course(9)),
                         [0, 0, 1, 1, 0, 9, 9, 2, 1, 1, 0, 4, 4, 1, 1, 1, 0, 1, 1, 0])
        self.assertEqual(last(*three, course(8))[2:8], [1, 0, 0, 0, 0, 2])

    def test_a_line_lost_to_two_tasks_is_reloaded_once(self):
        three = [reload(3), task(told(90, 90, 1, 1, [], [4, 5])), task(told(90, 90, 1, 2, [], [5, 6])),
                 task(told(90, 90, 2, 0, [5], []))]
        self.assertEqual(last(*three, course(20))[14:], [1, 1, 0, 7, 7, 3])

    def test_a_task_that_runs_for_several_cycles_takes_its_lines_once(self):
        two = [reload(3), task(told(90, 90, 8, 1, [], [4, 5])), task(told(90, 90, 2, 0, [5], []))]
        self.assertEqual(last(*two, course(20))[8:], [1, 1, 0, 13, 13, 3])

    def test_lines_that_are_not_useful_or_not_used_by_others(self):
        two = [reload(20), task(told(90, 90, 1, 1, [4], [5, 6])), task(told(90, 90, 2, 0, [7, 8, 4], [5, 6, 7, 8]))]
        self.assertEqual(last(*two, course(20))[8:], [1, 1, 0, 3, 3, 0])

    def test_useful_lines_alone_are_lost_not_the_used_ones(self):
        two = [reload(1), task(told(90, 90, 1, 1, [], [1, 2, 3, 4])), task(told(90, 90, 2, 0, [2], [1, 2, 3, 4]))]
        self.assertEqual(last(*two, course(20))[8:], [1, 1, 0, 4, 4, 1])

    def test_its_own_used_lines_are_not_lost(self):
        self.assertEqual(last(reload(20), task(told(90, 90, 5, 0, [1, 2], [1, 2])), course(20)),
                         [0, 15, 1, 1, 0, 5, 5, 0])

    def test_a_job_that_has_not_run_loses_nothing(self):
        two = [reload(20), task(told(90, 90, 3, 0, [], [1, 2])), task(told(90, 90, 2, 0, [1, 2], []))]
        self.assertEqual(last(*two, course(20))[8:], [1, 1, 0, 5, 5, 0])

    def test_a_job_that_is_done_loses_nothing_for_the_next_one(self):
        # Task 1 has a job done at 2; task 0 runs at 5; the next job of task 1 comes at 10.
        two = [reload(20), task(told(90, 90, 1, 5, [], [1, 2])), task(told(10, 10, 2, 0, [1, 2], []))]
        self.assertEqual(last(*two, course(20))[8:], [2, 2, 0, 2, 2, 0])

    def test_a_job_that_comes_while_another_task_runs_begins_without_reloads(self):
        # Both jobs of task 1 wait while task 0 runs from 1 to 4: the first one alone was begun.
        two = [reload(1), task(told(90, 90, 4, 1, [], [1, 2])), task(told(3, 3, 2, 0, [1, 2], []))]
        # The first goes on at 5, is done at 8; the second runs at 8 and 9, the third at 10 and 11.
        self.assertEqual(last(*two, course(12))[8:], [4, 3, 3, 8, 6, 2])

    def test_lost_lines_are_reloaded_by_one_job_alone(self):
        # The jobs of task 1 take 2 each, and each is begun one cycle before task 0 runs.
        two = [reload(1), task(told(10, 10, 1, 1, [], [1])), task(told(10, 10, 2, 0, [1], []))]
        self.assertEqual(last(*two, course(30))[8:], [3, 3, 0, 4, 4, 3])

    def test_all_lines_at_the_greatest_cost(self):
        every = list(range(32))
        two = [reload(20), task(told(500, 500, 1, 1, [], every)), task(told(500, 500, 2, 0, every, []))]
        self.assertEqual(last(*two, course(3))[8:], [1, 0, 0, 0, 0, 640])
        # It goes on at 2, at 502 and at 1002, each time before it has reloaded all of them.
        self.assertEqual(last(*two, course(1002))[8:], [3, 0, 2, 0, 0, 1280])
        self.assertEqual(last(*two, course(1003))[8:], [3, 0, 2, 0, 0, 1920])


class Refused(unittest.TestCase):
    def test_out_of_range(self):
        for h in (-1, 3001, -3000, 3002, LEAST, MOST):
            with self.subTest(h=h):
                self.assertEqual(run(task(FIRST), course(h), course(3)), [[0, 0], [-7], [0, 0, 1, 1, 0, 3, 3, 0]])
                self.assertEqual(run(course(h)), [[-7]])

    def test_the_ends_of_the_range(self):
        self.assertEqual(run(task(told(500, 1, 1, 499)), course(0), course(3000))[1:],
                         [[0, 0] + [0] * 6, [0, 2994, 6, 6, 0, 1, 1, 0]])


if __name__ == "__main__":
    unittest.main()
