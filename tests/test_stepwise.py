import unittest
from itertools import permutations, product

from cotreehall.stepwise import is_no_steps, is_steps, no_steps, steps
from helper import (
    HUGE, WIDE, apart, bare, check_agrees, check_free, check_numbers, check_one_is_none, check_rows, full, great_webs,
    near_lists, near_rows, no_points, right_no_steps, right_steps, ring, row, small_webs)


class StepsTest(unittest.TestCase):
    def check_web(self, web):
        rows, against = steps(web), no_steps(web)
        check_one_is_none(self, rows, against, web)
        if rows is None:
            check_numbers(self, against)
            self.assertTrue(right_no_steps(web, against), (web, against))
        else:
            check_rows(self, rows)
            self.assertTrue(right_steps(web, rows), (web, rows))

    def test_by_hand(self):
        self.assertEqual(steps([]), [])
        self.assertIsNone(no_steps([]))
        self.assertEqual([told[0] for told in steps([0])], [0])
        self.assertIsNone(steps(row(4)))
        self.assertIsNone(steps(ring(4)))
        self.assertIsNone(steps(apart(row(2), row(2))))
        self.assertIsNone(no_steps(row(3)))
        self.assertEqual(sorted(no_steps(row(4))), [0, 1, 2, 3])

    def test_all_webs_of_up_to_five_points(self):
        for web in small_webs(5):
            self.check_web(web)

    def test_greater_webs(self):
        for web in great_webs():
            self.check_web(web)

    def test_lists(self):
        for web in [[], [0], bare(3), row(3), row(4), full(14)]:
            check_free(self, steps, web)
            check_free(self, no_steps, web)


class IsStepsTest(unittest.TestCase):
    def test_all_rows_in_small_webs(self):
        for web in small_webs(3):
            for order in permutations(range(len(web))):
                for marks in product([0, 1, 2, -1], repeat=len(web)):
                    check_agrees(self, is_steps, right_steps, web, [list(told) for told in zip(order, marks)])

    def test_webs_of_four_points(self):
        for web in small_webs(4):
            for order in [(0, 1, 2, 3), (3, 1, 0, 2), (2, 3, 0, 1)]:
                for marks in product([0, 1], repeat=4):
                    check_agrees(self, is_steps, right_steps, web, [list(told) for told in zip(order, marks)])

    def test_either_mark_in_the_first_row(self):
        for web in small_webs(4)[1:] + [full(14), bare(14)]:
            rows = steps(web)
            if rows is not None:
                for mark in [0, 1]:
                    self.assertIs(is_steps(web, [[rows[0][0], mark]] + rows[1:]), True)
                for mark in [2, -1, HUGE, -WIDE]:
                    self.assertIs(is_steps(web, [[rows[0][0], mark]] + rows[1:]), False)

    def test_by_hand(self):
        self.assertIs(is_steps([], []), True)
        self.assertIs(is_steps([], [[]]), False)
        self.assertIs(is_steps([0], []), False)
        self.assertIs(is_steps(row(3), [[0, 0], [2, 0], [1, 1]]), True)
        self.assertIs(is_steps(row(3), [[0, 0], [1, 1], [2, 0]]), False)
        self.assertIs(is_steps(row(3), [[0, 0], [2, 0]]), False)
        self.assertIs(is_steps(row(3), [[0, 0], [2, 0], [1, 1], [1, 1]]), False)

    def test_near_rows(self):
        for web in small_webs(3) + [row(3) + [0], full(6), bare(5)] + great_webs()[-36:]:
            rows = steps(web) or [[p, p % 2] for p in range(len(web))]
            for near in near_rows(rows, len(web)):
                check_agrees(self, is_steps, right_steps, web, near)

    def test_rows_of_other_lengths(self):
        rows = [[0, 0], [2, 0], [1, 1]]
        for k in range(3):
            for told in [[], [rows[k][0]], rows[k] + [0], rows[k] + [WIDE]]:
                self.assertIs(is_steps(row(3), rows[:k] + [told] + rows[k + 1:]), False)


class IsNoStepsTest(unittest.TestCase):
    def test_all_lists_of_four_points(self):
        for web in small_webs(4):
            for some in product(range(len(web)), repeat=4):
                check_agrees(self, is_no_steps, right_no_steps, web, list(some))

    def test_three_numbers_and_five(self):
        self.assertIs(is_no_steps(row(5), [0, 1, 2, 3]), True)
        self.assertIs(is_no_steps(row(5), [0, 1, 2]), False)
        self.assertIs(is_no_steps(row(5), [0, 1, 2, 3, 4]), False)
        self.assertIs(is_no_steps(row(5), []), False)

    def test_the_other_two_pairs_as_they_may_be(self):
        for ties in [[0, 0], [1, 0], [0, 1], [1, 1]]:
            web = [0b0010 | ties[0] << 3, 0b0001 | ties[1] << 2, 0b1000 | ties[1] << 1, 0b0100 | ties[0]]
            self.assertIs(is_no_steps(web, [0, 1, 2, 3]), True)

    def test_numbers_that_are_no_points(self):
        for k in range(4):
            for number in no_points(4) + [0 if k else 1]:
                some = [0, 1, 2, 3]
                some[k] = number
                self.assertIs(is_no_steps(row(4), some), False)

    def test_near_lists(self):
        for web in great_webs():
            for near in near_lists(no_steps(web) or [0, 1, 2, 3], len(web)):
                check_agrees(self, is_no_steps, right_no_steps, web, near)
