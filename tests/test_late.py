import unittest

from helper import FIRST, LEAST, MOST, SECOND, course, last, late, order, reload, run, task, told


class Late(unittest.TestCase):
    def test_the_documents_example(self):
        two = [reload(1), task(FIRST), task(SECOND)]
        self.assertEqual(last(*two, order([1, 0]), late(30)), [1, 10, 0])
        self.assertEqual(last(*two, late(30)), [0])

    def test_no_tasks(self):
        for h in (0, 1, 3000):
            with self.subTest(h=h):
                self.assertEqual(run(late(h)), [[0]])

    def test_none_is_late(self):
        self.assertEqual(last(task(told(1, 1, 1)), late(3000)), [0])
        self.assertEqual(last(task(told(5, 5, 5)), late(3000)), [0])

    def test_just_at_the_end_and_just_before_it(self):
        two = [reload(1), task(FIRST), task(SECOND), order([1, 0])]
        for h in (0, 1, 9, 10):
            with self.subTest(h=h):
                self.assertEqual(last(*two, late(h)), [0])
        for h in (11, 12, 3000):
            with self.subTest(h=h):
                self.assertEqual(last(*two, late(h)), [1, 10, 0])

    def test_at_the_very_end_of_the_range(self):
        # The two tasks come together for the first time at 2998, or 2999; the lower one is late a cycle behind.
        told_last = [task(told(499, 499, 1, 4)), task(told(500, 1, 1, 498))]
        self.assertEqual(run(*told_last, late(3000), late(2999))[2:], [[1, 2999, 1], [0]])
        beyond = [task(told(499, 499, 1, 5)), task(told(500, 1, 1, 499))]
        self.assertEqual(last(*beyond, late(3000)), [0])

    def test_done_just_in_time(self):
        high = task(told(90, 90, 1))
        self.assertEqual(last(high, task(told(90, 6, 5)), late(50)), [0])
        self.assertEqual(last(high, task(told(90, 5, 5)), late(50)), [1, 5, 1])

    def test_a_job_that_is_done_later(self):
        two = [task(told(90, 90, 1)), task(told(90, 5, 5))]
        self.assertEqual(last(*two, course(50))[8:], [1, 1, 1, 6, 6, 0])
        self.assertEqual(last(*two, late(50)), [1, 5, 1])

    def test_a_job_that_never_runs(self):
        two = [task(told(1, 1, 1)), task(told(500, 7, 1, 3))]
        self.assertEqual(last(*two, late(10)), [0])
        self.assertEqual(last(*two, late(11)), [1, 10, 1])

    def test_two_at_one_time(self):
        three = [task(told(90, 4, 1)), task(told(90, 4, 1)), task(told(90, 90, 9))]
        for tasks in ([2, 0, 1], [2, 1, 0]):
            with self.subTest(tasks=tasks):
                self.assertEqual(last(*three, order(tasks), late(50)), [1, 4, 0])

    def test_the_first_time_goes_before_the_first_number(self):
        three = [task(told(90, 5, 1)), task(told(90, 4, 1)), task(told(90, 90, 9)), order([2, 0, 1])]
        self.assertEqual(last(*three, late(50)), [1, 4, 1])

    def test_a_later_job_of_a_task(self):
        # The second job of task 1 comes at 10, as the first one of task 0, which takes 4, does.
        two = [task(told(90, 90, 4, 10)), task(told(10, 5, 2))]
        self.assertEqual(last(*two, late(50)), [1, 15, 1])
        self.assertEqual(last(*two, late(15)), [0])

    def test_a_job_that_waits_behind_another_of_its_task(self):
        # Done at 6, 12 and 18, with deadlines at 7, 14 and 21; from 21 on the same again.
        self.assertEqual(last(task(told(3, 3, 2)), task(told(7, 7, 2)), late(3000)), [0])
        # With a period of 5 already the first one is late.
        self.assertEqual(last(task(told(3, 3, 2)), task(told(5, 5, 2)), late(3000)), [1, 5, 1])

    def test_late_by_reloads_alone(self):
        two = [task(told(90, 90, 1, 1, [], [1])), task(told(90, 4, 3, 0, [1], []))]
        self.assertEqual(run(*two, late(50), reload(1), late(50))[2:], [[0], [0], [1, 4, 1]])

    def test_offsets_count(self):
        # Told by response times alone the second is not in time; with its offset it is.
        for offset, answer in ((0, [1, 5, 1]), (5, [0])):
            with self.subTest(offset=offset):
                two = [task(told(10, 10, 5)), task(told(10, 5, 5, offset))]
                self.assertEqual(last(*two, late(3000)), answer)

    def test_late_tells_what_course_counts(self):
        three = [reload(1), task(told(11, 11, 3, 2, [], [1, 2])), task(told(17, 9, 5, 0, [1], [3])),
                 task(told(40, 33, 12, 1, [1, 2, 3], [4]))]
        for h in range(0, 120):
            found = run(*three, course(h), late(h))[4:]
            counted = found[0][4::6]
            self.assertEqual(found[1][0], 1 if sum(counted) > 0 else 0, h)


class Refused(unittest.TestCase):
    def test_out_of_range(self):
        for h in (-1, 3001, -3000, 3002, LEAST, MOST):
            with self.subTest(h=h):
                self.assertEqual(run(task(FIRST), late(h), late(3000))[1:], [[-7], [0]])
                self.assertEqual(run(late(h)), [[-7]])


if __name__ == "__main__":
    unittest.main()
