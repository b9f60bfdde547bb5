"""The calls that ask: they leave what is held as it was, and answer within seconds."""

import time
import unittest

from helper import (ALL, BEST, FIRST, RANKS, SECOND, TASKS, cost, course, late, line, order, reload, response, run, task,
                    told, trace)

from cachetasks.course import answers

EVERY = list(range(32))
ASKING = [cost(1, 2), cost(2, 1), cost(0, 9), response(0), response(1), response(2), response(3), ALL, BEST,
          course(0), course(100), course(-1), trace(30, 40), trace(-1, 2), late(100), late(3001), TASKS, RANKS]
HELD = [reload(1), task(told(50, 50, 12, 0, [1, 2], [3, 4])), task(FIRST), task(SECOND), order([2, 0, 1])]
# Each of these lines takes a second or two; the rest is left for slow machines.
MOST_SECONDS = 15


class Asking(unittest.TestCase):
    def setUp(self):
        self.before = run(*HELD, *ASKING)[len(HELD):]

    def test_some_are_refused_and_some_not(self):
        firsts = {answer[0] for answer in self.before}
        self.assertEqual(firsts, {0, 1, -3, -4, -7})

    def test_each_leaves_what_every_other_one_asks(self):
        for call in ASKING:
            with self.subTest(call=call):
                found = run(*HELD, call, *ASKING)[len(HELD) + 1:]
                self.assertEqual(found, self.before)

    def test_all_of_them_leave_what_is_held(self):
        # A line has 40 calls at most: 5 that tell what is held, and these 18 nearly twice.
        found = run(*HELD, *ASKING, *ASKING[::-1][:17])[len(HELD):]
        self.assertEqual(found[:18], self.before)
        self.assertEqual(found[18:], self.before[::-1][:17])

    def test_what_changes_later_is_seen(self):
        found = run(*HELD, course(100), order([1, 0, 2]), course(100), reload(0), course(100))
        self.assertEqual(len({tuple(answer) for answer in (found[5], found[7], found[9])}), 3)

    def test_the_list_stays_and_twice_answers_the_same(self):
        calls = line(*HELD, *ASKING)
        kept = list(calls)
        first = answers(calls)
        self.assertEqual(calls, kept)
        self.assertEqual(answers(calls), first)
        self.assertEqual(calls, kept)


class WithinSeconds(unittest.TestCase):
    def timed(self, *calls):
        begun = time.perf_counter()
        found = run(*calls)
        self.assertLess(time.perf_counter() - begun, MOST_SECONDS)
        return found

    def test_courses_of_six_tasks(self):
        six = [task(told(7 + k, 7, 2, k, EVERY, EVERY)) for k in range(6)]
        found = self.timed(reload(20), *six, order([5, 4, 3, 2, 1, 0]), *[course(3000)] * 16, *[trace(2800, 200)] * 16)
        self.assertEqual(found[8], found[23])
        self.assertEqual([len(answer) for answer in found[8:]], [38] * 16 + [201] * 16)

    def test_many_jobs_that_are_never_done(self):
        six = [task(told(1, 1, 1, 0, EVERY, EVERY))] * 6
        found = self.timed(reload(20), *six, *[course(3000)] * 33)
        self.assertEqual(found[-1], [0, 0, 3000, 3000, 0, 1, 1, 0] + [3000, 0, 2999, 0, 0, 0] * 5)

    def test_late_of_tasks_that_never_are(self):
        six = [task(told(60, 60, 10, 0, EVERY, EVERY))] * 6
        self.assertEqual(self.timed(*six, *[late(3000)] * 34)[6:], [[0]] * 34)

    def test_best_of_six_tasks_of_which_no_order_is_in_time(self):
        # Any five of them are in time, so every order is gone through to its end.
        six = [task(told(500, 500, 84, 0, EVERY, EVERY))] * 6
        self.assertEqual(self.timed(*six, *[BEST] * 34)[6:], [[1]] * 34)

    def test_best_with_many_rounds(self):
        six = [task(told(500, 500, 1, 0, EVERY, EVERY))] * 3 + [task(told(3, 3, 1, 0, EVERY, EVERY))] * 3
        self.assertEqual(self.timed(*six, *[BEST] * 34)[6:], [[1]] * 34)


if __name__ == "__main__":
    unittest.main()
