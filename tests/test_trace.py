import unittest

from helper import FIRST, LEAST, MOST, SECOND, course, last, order, reload, run, task, told, trace

TWO = [reload(1), task(FIRST), task(SECOND)]
# The first 20 cycles of the document's example.
CYCLES = [1] * 3 + [2] * 7 + [1] * 3 + [2] * 3 + [0] * 4


class Trace(unittest.TestCase):
    def test_the_documents_example(self):
        self.assertEqual(last(*TWO, trace(9, 5)), [0, 2, 1, 1, 1, 2])

    def test_from_the_beginning(self):
        self.assertEqual(last(*TWO, trace(0, 20)), [0] + CYCLES)
        self.assertEqual(last(*TWO, trace(0, 60)), [0] + CYCLES * 3)

    def test_every_part_is_that_part_of_the_whole(self):
        whole = CYCLES * 3
        for t in range(0, 41):
            for n in range(0, 20):
                self.assertEqual(last(*TWO, trace(t, n)), [0] + whole[t:t + n], (t, n))

    def test_no_cycles(self):
        for t in (0, 1, 9, 2999, 3000):
            with self.subTest(t=t):
                self.assertEqual(last(*TWO, trace(t, 0)), [0])

    def test_no_tasks(self):
        for t, n in ((0, 0), (0, 200), (7, 3), (2800, 200), (3000, 0)):
            with self.subTest(t=t, n=n):
                self.assertEqual(run(trace(t, n)), [[0] + [0] * n])

    def test_idle_cycles_ahead_between_and_behind(self):
        two = [task(told(6, 6, 2, 3)), task(told(12, 12, 1, 4))]
        self.assertEqual(last(*two, trace(0, 18)), [0, 0, 0, 0, 1, 1, 2, 0, 0, 0, 1, 1, 0, 0, 0, 0, 1, 1, 2])

    def test_one_more_than_the_number_of_each_of_six(self):
        six = [task(told(50, 50, 1))] * 6
        self.assertEqual(last(*six, trace(0, 7)), [0, 1, 2, 3, 4, 5, 6, 0])
        self.assertEqual(last(*six, order([3, 5, 0, 4, 2, 1]), trace(0, 7)), [0, 4, 6, 1, 5, 3, 2, 0])

    def test_the_highest_takes_the_processor_at_once(self):
        two = [task(told(90, 90, 5)), task(told(4, 4, 1, 2)), order([1, 0])]
        self.assertEqual(last(*two, trace(0, 9)), [0, 1, 1, 2, 1, 1, 1, 2, 0, 0])

    def test_a_job_does_not_preempt_one_of_its_own_task_or_above(self):
        two = [task(told(5, 5, 4)), task(told(3, 3, 1))]
        self.assertEqual(last(*two, trace(0, 10)), [0, 1, 1, 1, 1, 2, 1, 1, 1, 1, 2])

    def test_reloads_are_cycles_of_the_task(self):
        two = [reload(2), task(told(90, 90, 1, 1, [], [1, 2])), task(told(90, 90, 2, 0, [1, 2], []))]
        self.assertEqual(last(*two, trace(0, 9)), [0, 2, 1, 2, 2, 2, 2, 2, 0, 0])

    def test_late_in_the_course(self):
        # 2800 is a multiple of 20, so the example begins anew there.
        self.assertEqual(last(*TWO, trace(2800, 200)), [0] + CYCLES * 10)
        self.assertEqual(last(*TWO, trace(2999, 1)), [0, 0])
        self.assertEqual(last(task(told(500, 1, 1, 499)), trace(2998, 2)), [0, 0, 1])

    def test_parts_one_behind_another_tell_the_whole_course(self):
        three = [reload(1), task(told(11, 11, 2, 3, [], [1, 2])), task(told(17, 17, 5, 0, [1], [3])),
                 task(told(50, 50, 9, 1, [1, 2, 3], [4]))]
        parts = run(*three, *[trace(t, 200) for t in range(0, 3000, 200)], course(3000))[4:]
        whole = [number for part in parts[:-1] for number in part[1:]]
        self.assertEqual(len(whole), 3000)
        self.assertEqual(whole.count(0), parts[-1][1])
        self.assertEqual(whole.count(1), 2 * parts[-1][3])


class Refused(unittest.TestCase):
    def test_each_reason_at_its_edge(self):
        for t, n in ((-1, 5), (-1, 0), (0, -1), (9, -1), (0, 201), (9, 201), (3000, 1), (3001, 0), (2801, 200),
                     (2900, 101), (3001, -1), (-1, 201), (-200, 200)):
            with self.subTest(t=t, n=n):
                self.assertEqual(run(*TWO, trace(t, n), trace(9, 5))[3:], [[-7], [0, 2, 1, 1, 1, 2]])
                self.assertEqual(run(trace(t, n)), [[-7]])

    def test_the_ends_of_the_range_of_numbers(self):
        for t in (LEAST, -1, 0, 3000, MOST):
            for n in (LEAST, MOST):
                with self.subTest(t=t, n=n):
                    self.assertEqual(run(trace(t, n), trace(n, 0), trace(n, 200)), [[-7]] * 3)

    def test_taken_within_the_edges(self):
        for t, n in ((0, 0), (0, 200), (2800, 200), (2801, 199), (2999, 1), (3000, 0)):
            with self.subTest(t=t, n=n):
                found = last(*TWO, trace(t, n))
                self.assertEqual((found[0], len(found)), (0, n + 1))


if __name__ == "__main__":
    unittest.main()
