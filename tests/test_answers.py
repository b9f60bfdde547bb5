import unittest

from helper import (ALL, BEST, FIRST, LEAST, MOST, RANKS, SECOND, TASKS, cost, course, late, line, order, plain, reload,
                    response, retask, sort, task, trace, untask)

from cachetasks.calls import read_calls
from cachetasks.course import answers


def refuse(*told):
    raise AssertionError("the list handed in was changed")


class Watched(list):
    """A list that cannot be changed unseen, not for a while either."""

    append = clear = extend = insert = pop = remove = reverse = sort = refuse
    __setitem__ = __delitem__ = __iadd__ = __imul__ = refuse


EVERY_CALL = line(
    reload(1), task(FIRST), task(SECOND), order([1, 0]), RANKS, ALL, BEST, late(30), sort(0), TASKS,
    cost(1, 0), cost(0, 1), cost(2, 0), response(1), response(2), ALL, course(20), course(-1), trace(9, 5),
    trace(0, 201), late(30), late(3001), retask(0, plain(30)), sort(0), task([]), order([]),
    reload(MOST), untask(LEAST), untask(0), TASKS, RANKS)

EVERY_ANSWER = [
    1, 0,
    2, 0, 0,
    2, 0, 1,
    1, 0,
    3, 0, 1, 0,
    5, 1, 1, 8, 0, 11,
    3, 0, 0, 1,
    3, 1, 10, 0,
    3, 0, 0, 1,
    23, 0, 2, 10, 10, 3, 0, 0, 2, 1, 2, 20, 20, 8, 0, 3, 1, 2, 3, 4, 1, 2, 3, 4,
    2, 0, 2,
    1, -4,
    1, -3,
    3, 0, 18, 3,
    1, -3,
    5, 0, 0, 3, 1, 18,
    14, 0, 4, 2, 2, 0, 3, 3, 0, 1, 1, 0, 16, 16, 2,
    1, -7,
    6, 0, 2, 1, 1, 1, 2,
    1, -7,
    1, 0,
    1, -7,
    1, 0,
    3, 0, 1, 0,
    1, -12,
    1, -12,
    1, -7,
    1, -3,
    1, 0,
    15, 0, 1, 20, 20, 8, 0, 3, 1, 2, 3, 4, 1, 2, 3, 4,
    2, 0, 0,
]


class Answers(unittest.TestCase):
    def test_the_lists_as_they_stand(self):
        self.assertEqual(answers([0, 20]), [1, 0])
        self.assertEqual(answers([0, 21]), [1, -7])
        self.assertEqual(answers([1, 6, 5, 4, 3, 2, 0, 0]), [2, 0, 0])
        self.assertEqual(answers([1, 0]), [1, -12])
        self.assertEqual(answers([2, 0, 6, 5, 4, 3, 2, 0, 0]), [1, -3])
        self.assertEqual(answers([2, 0, 0]), [1, -3])
        self.assertEqual(answers([3, 0]), [1, -3])
        self.assertEqual(answers([4, 0]), [1, 0])
        self.assertEqual(answers([4, 1, 0]), [1, -12])
        self.assertEqual(answers([5, 1]), [1, 0])
        self.assertEqual(answers([6]), [2, 0, 0])
        self.assertEqual(answers([7]), [1, 0])
        self.assertEqual(answers([8, 0, 0]), [1, -3])
        self.assertEqual(answers([9, 0]), [1, -3])
        self.assertEqual(answers([10]), [1, 0])
        self.assertEqual(answers([11]), [1, 0])
        self.assertEqual(answers([12, 5]), [2, 0, 5])
        self.assertEqual(answers([12, 3001]), [1, -7])
        self.assertEqual(answers([13, 5, 2]), [3, 0, 0, 0])
        self.assertEqual(answers([13, 5, 0]), [1, 0])
        self.assertEqual(answers([13, -1, 0]), [1, -7])
        self.assertEqual(answers([14, 5]), [1, 0])
        self.assertEqual(answers([14, -1]), [1, -7])

    def test_several_calls_in_one_list(self):
        self.assertEqual(answers(EVERY_CALL), EVERY_ANSWER)

    def test_the_documents_example(self):
        held = [0, 1, 1, 8, 10, 10, 3, 0, 0, 2, 1, 2, 1, 13, 20, 20, 8, 0, 3, 1, 2, 3, 4, 1, 2, 3, 4]
        told = [1, 0, 2, 0, 0, 2, 0, 1]
        self.assertEqual(answers(held), told)
        self.assertEqual(answers(held + [8, 1, 0]), told + [2, 0, 2])
        self.assertEqual(answers(held + [9, 1, 0, 2, 9, 1, 0, 0, 9, 1]),
                         told + [3, 0, 18, 3, 1, 0, 3, 1, 22, 2, 1, 0, 3, 0, 14, 3])
        self.assertEqual(answers(held + [12, 20]), told + [14, 0, 4, 2, 2, 0, 3, 3, 0, 1, 1, 0, 16, 16, 2])
        self.assertEqual(answers(held + [13, 9, 5]), told + [6, 0, 2, 1, 1, 1, 2])
        self.assertEqual(answers(held + [11]), told + [3, 0, 0, 1])
        self.assertEqual(answers(held + [4, 2, 1, 0, 10, 14, 30]), told + [1, 0, 5, 1, 1, 8, 0, 11, 3, 1, 10, 0])

    def test_a_row_ends_where_its_count_says(self):
        # Behind each row stands a call that its numbers could be taken for.
        self.assertEqual(answers([1, 0, 6, 1, 1, 7, 7]), [1, -12, 2, 0, 0, 1, -12, 1, 0])
        self.assertEqual(answers([4, 2, 6, 7, 4, 0, 6]), [1, -12, 1, 0, 2, 0, 0])
        self.assertEqual(answers([2, 6, 2, 7, 7, 7]), [1, -3, 1, 0])

    def test_rows_of_200_numbers(self):
        self.assertEqual(answers([1, 200] + [6] * 200 + [6]), [1, -12, 2, 0, 0])
        self.assertEqual(answers([2, 0, 200] + [6] * 200 + [7]), [1, -3, 1, 0])
        self.assertEqual(answers([4, 200] + [0] * 200 + [7]), [1, -12, 1, 0])

    def test_forty_calls_of_the_greatest_size(self):
        calls = ([2, 0, 200] + [MOST] * 200) * 40
        self.assertEqual(len(calls), 8120)
        self.assertEqual(answers(calls), [1, -3] * 40)

    def test_the_list_handed_in_stays_as_it_was(self):
        calls = list(EVERY_CALL)
        answers(calls)
        self.assertEqual(calls, EVERY_CALL)

    def test_the_list_handed_in_is_not_changed_for_a_while_either(self):
        self.assertEqual(answers(Watched(EVERY_CALL)), EVERY_ANSWER)

    def test_twice_answers_the_same(self):
        calls = list(EVERY_CALL)
        self.assertEqual(answers(calls), answers(calls))

    def test_nothing_is_kept_from_one_list_to_the_next(self):
        answers([1, 6, 5, 4, 3, 2, 0, 0])
        self.assertEqual(answers([6, 7]), [2, 0, 0, 1, 0])

    def test_what_is_given_back_may_be_changed(self):
        first = answers(EVERY_CALL)
        first.clear()
        self.assertEqual(answers(EVERY_CALL), EVERY_ANSWER)

    def test_a_list_of_whole_numbers_is_given_back(self):
        given = answers(EVERY_CALL)
        self.assertIs(type(given), list)
        self.assertEqual({type(number) for number in given}, {int})


class Reading(unittest.TestCase):
    def test_every_call_of_the_interface(self):
        calls = [0, 7, 1, 2, 8, 9, 2, 5, 1, 6, 3, 4, 4, 3, 2, 1, 0, 5, 1, 6, 7,
                 8, 1, 0, 9, 1, 10, 11, 12, 20, 13, 9, 5, 14, 30, 7]
        self.assertEqual(read_calls(calls), [
            ("reload", [7], []), ("task", [], [8, 9]), ("retask", [5], [6]), ("untask", [4], []),
            ("order", [], [2, 1, 0]), ("sorted", [1], []), ("tasks", [], []), ("ranks", [], []),
            ("cost", [1, 0], []), ("response", [1], []), ("all", [], []), ("best", [], []),
            ("course", [20], []), ("trace", [9, 5], []), ("late", [30], []),
            ("ranks", [], [])])

    def test_empty_rows(self):
        self.assertEqual(read_calls([1, 0, 2, -1, 0, 4, 0, 1, 1, 0]), [
            ("task", [], []), ("retask", [-1], []), ("order", [], []), ("task", [], [0])])


if __name__ == "__main__":
    unittest.main()
