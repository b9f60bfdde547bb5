import unittest

from helper import LEAST, MOST, RANKS, TASKS, last, plain, run, task

ALL_LINES = list(range(32))

TAKEN = {
    "ordinary": [20, 15, 8, 3, 3, 1, 2, 3, 2, 7, 9],
    "the document's first": [10, 10, 3, 0, 0, 2, 1, 2],
    "the document's second": [20, 20, 8, 0, 3, 1, 2, 3, 4, 1, 2, 3, 4],
    "least of all": [1, 1, 1, 0, 0, 0],
    "greatest of all": [500, 500, 500, 500, 0, 0],
    "period 500": [500, 1, 1, 0, 0, 0],
    "deadline is the period": [7, 7, 1, 0, 0, 0],
    "deadline 1": [7, 1, 1, 0, 0, 0],
    "cycles are the deadline": [7, 5, 5, 0, 0, 0],
    "cycles 1": [7, 5, 1, 0, 0, 0],
    "offset beyond the period": [7, 5, 1, 8, 0, 0],
    "offset 500": [7, 5, 1, 500, 0, 0],
    "useful lines 0 and 31": [7, 5, 1, 0, 2, 0, 31, 0],
    "used lines 0 and 31": [7, 5, 1, 0, 0, 2, 0, 31],
    "all lines in both": [7, 5, 1, 0, 32] + ALL_LINES + [32] + ALL_LINES,
    "useful lines alone": [7, 5, 1, 0, 1, 4, 0],
    "the same line in both": [7, 5, 1, 0, 1, 4, 1, 4],
    "lines that do not rise": [7, 5, 1, 0, 3, 9, 2, 5, 3, 30, 4, 11],
}

REFUSED = {
    "empty": [],
    "period 0": [0, 1, 1, 0, 0, 0],
    "all times 0": [0, 0, 0, 0, 0, 0],
    "period 501": [501, 1, 1, 0, 0, 0],
    "period below 0": [-1, 1, 1, 0, 0, 0],
    "period least": [LEAST, 1, 1, 0, 0, 0],
    "period most": [MOST, 1, 1, 0, 0, 0],
    "deadline 0": [7, 0, 1, 0, 0, 0],
    "deadline 0, cycles 0": [7, 0, 0, 0, 0, 0],
    "deadline beyond the period": [7, 8, 1, 0, 0, 0],
    "deadline most": [7, MOST, 1, 0, 0, 0],
    "deadline least": [7, LEAST, 1, 0, 0, 0],
    "cycles 0": [7, 5, 0, 0, 0, 0],
    "cycles below 0": [7, 5, -1, 0, 0, 0],
    "cycles beyond the deadline": [7, 5, 6, 0, 0, 0],
    "cycles most": [7, 5, MOST, 0, 0, 0],
    "offset below 0": [7, 5, 1, -1, 0, 0],
    "offset 501": [7, 5, 1, 501, 0, 0],
    "offset most": [7, 5, 1, MOST, 0, 0],
    "offset least": [7, 5, 1, LEAST, 0, 0],
    "useful line below 0": [7, 5, 1, 0, 1, -1, 0],
    "useful line 32": [7, 5, 1, 0, 1, 32, 0],
    "useful line most": [7, 5, 1, 0, 1, MOST, 0],
    "used line below 0": [7, 5, 1, 0, 0, 1, -1],
    "used line 32": [7, 5, 1, 0, 0, 1, 32],
    "used line least": [7, 5, 1, 0, 0, 1, LEAST],
    "last useful line 32": [7, 5, 1, 0, 2, 3, 32, 0],
    "last used line 32": [7, 5, 1, 0, 0, 2, 3, 32],
    "useful line twice": [7, 5, 1, 0, 2, 4, 4, 0],
    "useful line twice, apart": [7, 5, 1, 0, 3, 4, 6, 4, 0],
    "used line twice": [7, 5, 1, 0, 0, 2, 4, 4],
    "used line twice, apart": [7, 5, 1, 0, 0, 3, 4, 6, 4],
    "33 useful lines": [7, 5, 1, 0, 33] + ALL_LINES + [0, 0],
    "33 used lines": [7, 5, 1, 0, 0, 33] + ALL_LINES + [0],
    "something behind": [7, 5, 1, 0, 0, 0, 0],
    "a line behind the used ones": [7, 5, 1, 0, 1, 2, 1, 3, 4],
    "a whole task behind": [7, 5, 1, 0, 0, 0, 7, 5, 1, 0, 0, 0],
    "200 numbers": [7, 5, 1, 0, 0, 0] + [0] * 194,
    "no used count": [7, 5, 1, 0, 0],
    "no used count behind useful lines": [7, 5, 1, 0, 2, 3, 4],
    "no useful count": [7, 5, 1, 0],
    "no offset": [7, 5, 1],
    "no cycles": [7, 5],
    "no deadline": [7],
    "useful count one too many": [7, 5, 1, 0, 3, 1, 2],
    "useful count takes the used count": [7, 5, 1, 0, 2, 1, 0],
    "useful count one too few": [7, 5, 1, 0, 1, 1, 2, 0],
    "used count one too many": [7, 5, 1, 0, 0, 3, 1, 2],
    "used count one too few": [7, 5, 1, 0, 0, 1, 1, 2],
    "useful count most": [7, 5, 1, 0, MOST, 0],
    "used count most": [7, 5, 1, 0, 0, MOST],
    "useful count below 0": [7, 5, 1, 0, -1, 0],
    "useful count below 0, which leads back": [7, 5, 1, 0, -1, 0, 0],
    "used count below 0": [7, 5, 1, 0, 0, -1],
    "used count below 0, with a line": [7, 5, 1, 0, 0, -1, 3],
    "useful count least": [7, 5, 1, 0, LEAST, 0],
    "used count least": [7, 5, 1, 0, 0, LEAST],
}


class Taken(unittest.TestCase):
    def test_taken_and_told_as_it_was(self):
        for name, numbers in TAKEN.items():
            with self.subTest(name):
                self.assertEqual(run(task(numbers), TASKS, RANKS), [[0, 0], [0, 1] + numbers, [0, 0]])

    def test_each_is_the_last_and_the_lowest(self):
        told = [plain(period) for period in (9, 3, 7)]
        found = run(task(told[0]), task(told[1]), task(told[2]), TASKS, RANKS)
        self.assertEqual(found[:3], [[0, 0], [0, 1], [0, 2]])
        self.assertEqual(found[3], [0, 3] + told[0] + told[1] + told[2])
        self.assertEqual(found[4], [0, 0, 1, 2])

    def test_lowest_in_an_order_that_was_given(self):
        calls = [task(plain(9)), task(plain(3)), [4, 2, 1, 0], task(plain(1)), RANKS]
        self.assertEqual(last(*calls), [0, 1, 0, 2])

    def test_two_may_be_the_same(self):
        told = TAKEN["ordinary"]
        self.assertEqual(run(task(told), task(told), TASKS), [[0, 0], [0, 1], [0, 2] + told + told])


class Refused(unittest.TestCase):
    def test_refused_with_nothing_held(self):
        for name, numbers in REFUSED.items():
            with self.subTest(name):
                self.assertEqual(run(task(numbers), TASKS, RANKS), [[-12], [0, 0], [0]])

    def test_refused_and_the_object_as_it_was(self):
        first, second = plain(9), TAKEN["ordinary"]
        for name, numbers in REFUSED.items():
            with self.subTest(name):
                found = run(task(first), task(second), [4, 2, 1, 0], task(numbers), TASKS, RANKS)
                self.assertEqual(found[3:], [[-12], [0, 2] + first + second, [0, 1, 0]])

    def test_a_number_is_not_used_up(self):
        self.assertEqual(run(task([]), task(plain(3))), [[-12], [0, 0]])


class SixTasks(unittest.TestCase):
    def setUp(self):
        self.told = [plain(period) for period in (9, 3, 7, 5, 1, 2)]
        self.six = [task(numbers) for numbers in self.told]

    def test_the_sixth_is_taken_and_the_seventh_refused(self):
        found = run(*self.six, task(plain(4)))
        self.assertEqual(found, [[0, 0], [0, 1], [0, 2], [0, 3], [0, 4], [0, 5], [-9]])

    def test_the_object_is_as_it_was(self):
        found = run(*self.six, [4, 6, 5, 3, 1, 0, 2, 4], task(plain(4)), TASKS, RANKS)
        self.assertEqual(found[-2], [0, 6] + [number for numbers in self.told for number in numbers])
        self.assertEqual(found[-1], [0, 5, 3, 1, 0, 2, 4])

    def test_a_wrong_list_is_told_first(self):
        for name, numbers in REFUSED.items():
            with self.subTest(name):
                self.assertEqual(last(*self.six, task(numbers)), [-12])

    def test_room_again_when_one_is_gone(self):
        found = run(*self.six, task(plain(4)), [3, 0], task(plain(4)), task(plain(4)))
        self.assertEqual(found[6:], [[-9], [0], [0, 5], [-9]])


if __name__ == "__main__":
    unittest.main()
