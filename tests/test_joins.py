import random
import unittest
from itertools import permutations, product

from cotreehall.joins import is_joining, is_line_of_four, joining, line_of_four, web_of_joining
from helper import (
    HUGE, WIDE, bare, check_agrees, check_free, check_numbers, check_one_is_none, check_rows, flipped, full, great_webs,
    is_whole_number, joined_by, near_lists, near_rows, no_points, other, right_joining, right_line_of_four, ring, row,
    small_webs, some_rows_of_joining)


class WebOfJoiningTest(unittest.TestCase):
    def test_by_hand(self):
        self.assertEqual(web_of_joining(0, []), [])
        self.assertEqual(web_of_joining(1, []), [0])
        self.assertEqual(web_of_joining(2, [[0, 0, 1]]), [0, 0])
        self.assertEqual(web_of_joining(2, [[1, 0, 1]]), [2, 1])
        self.assertEqual(web_of_joining(2, [[1, 1, 0]]), [2, 1])
        self.assertEqual(web_of_joining(3, [[0, 0, 2], [1, 3, 1]]), row(3))
        self.assertEqual(web_of_joining(4, [[0, 0, 2], [0, 1, 3], [1, 5, 4]]), ring(4))
        self.assertEqual(web_of_joining(4, [[1, 0, 1], [1, 2, 3], [0, 4, 5]]), [2, 1, 8, 4])

    def test_fourteen_points(self):
        chance = random.Random(18)
        for k in range(60):
            rows = some_rows_of_joining(chance, 14)
            self.assertEqual(web_of_joining(14, rows), joined_by(14, rows))
        chain = [[1, 0, 1]] + [[1, 14 + k, k + 2] for k in range(12)]
        self.assertEqual(web_of_joining(14, chain), full(14))
        self.assertEqual(web_of_joining(14, [[0, x, y] for mark, x, y in chain]), bare(14))

    def test_all_rows_for_three_points(self):
        for one, two in product(product([0, 1], range(3), range(3)), product([0, 1], range(4), range(4))):
            rows = [list(one), list(two)]
            right = joined_by(3, rows)
            if right is not None:
                self.assertEqual(web_of_joining(3, rows), right)

    def test_lists(self):
        check_free(self, web_of_joining, 0, [])
        check_free(self, web_of_joining, 1, [])
        check_free(self, web_of_joining, 4, [[0, 0, 2], [0, 1, 3], [1, 5, 4]])
        for mates in web_of_joining(2, [[1, 0, 1]]):
            self.assertTrue(is_whole_number(mates))


class JoiningTest(unittest.TestCase):
    def check_web(self, web):
        rows, against = joining(web), line_of_four(web)
        check_one_is_none(self, rows, against, web)
        if rows is None:
            check_numbers(self, against)
            self.assertTrue(right_line_of_four(web, against), (web, against))
        else:
            check_rows(self, rows)
            self.assertEqual(len(rows), max(len(web) - 1, 0))
            self.assertTrue(right_joining(web, rows), (web, rows))

    def test_by_hand(self):
        self.assertEqual(joining([]), [])
        self.assertEqual(joining([0]), [])
        self.assertIn(joining([0, 0]), [[[0, 0, 1]], [[0, 1, 0]]])
        self.assertIn(joining([2, 1]), [[[1, 0, 1]], [[1, 1, 0]]])
        self.assertIsNone(joining(row(4)))
        self.assertIn(line_of_four(row(4)), [[0, 1, 2, 3], [3, 2, 1, 0]])
        for web in [[], [0], row(3), ring(4), full(14), bare(14)]:
            self.assertIsNone(line_of_four(web))

    def test_all_webs_of_up_to_five_points(self):
        for web in small_webs(5):
            self.check_web(web)

    def test_greater_webs(self):
        chance = random.Random(19)
        for web in great_webs() + [joined_by(14, some_rows_of_joining(chance, 14)) for k in range(40)]:
            self.check_web(web)

    def test_lists(self):
        for web in [[], [0], row(3), row(4), ring(4), full(14)]:
            check_free(self, joining, web)
            check_free(self, line_of_four, web)


class IsJoiningTest(unittest.TestCase):
    def test_no_row_for_no_point_and_for_one(self):
        for web in [[], [0]]:
            self.assertIs(is_joining(web, []), True)
            for told in [[], [0], [0, 0, 1], [0, 0, 0], [1, 0, 0]]:
                self.assertIs(is_joining(web, [told]), False)

    def test_all_rows_for_two_points(self):
        for web in small_webs(2):
            for told in product([-1, 0, 1, 2], repeat=3):
                check_agrees(self, is_joining, right_joining, web, [list(told)])

    def test_all_rows_for_three_points(self):
        webs = [web for web in small_webs(3) if len(web) == 3]
        for one, two in product(product([0, 1], [-1, 0, 1, 2, 3], [0, 1, 2, 3]), product([0, 1], range(5), range(5))):
            rows = [list(one), list(two)]
            for web in [webs[0], webs[1], webs[3], webs[6], webs[7]]:
                check_agrees(self, is_joining, right_joining, web, rows)

    def test_near_rows(self):
        for web in small_webs(3) + [ring(4), full(5), row(4)] + great_webs()[::3]:
            rows = joining(web) or [[k % 2, 2 * k, 2 * k + 1] for k in range(len(web) - 1)]
            for near in near_rows(rows, len(web)):
                check_agrees(self, is_joining, right_joining, web, near)

    def test_wrong_rows_by_hand(self):
        good = [[0, 0, 2], [0, 1, 3], [1, 5, 4]]
        self.assertIs(is_joining(ring(4), good), True)
        for k, told in [(0, [0, 0, 0]), (0, [0, 0, 4]), (0, [0, 2]), (0, [0, 0, 2, 1]), (0, []), (0, [2, 0, 2]),
                        (0, [-1, 0, 2]), (1, [0, 0, 3]), (1, [0, 1, 5]), (1, [0, 1, -1]), (2, [1, 5, 5]),
                        (2, [1, 5, 6]), (2, [1, 5, HUGE]), (2, [WIDE, 5, 4]), (2, [1, -WIDE, 4]), (2, [0, 5, 4])]:
            self.assertIs(is_joining(ring(4), good[:k] + [told] + good[k + 1:]), False, told)
        self.assertIs(is_joining(ring(4), good[:2]), False)
        self.assertIs(is_joining(ring(4), good + [[0, 6, 6]]), False)
        self.assertIs(is_joining(ring(4), []), False)
        for a, b in [(0, 1), (0, 2)]:
            self.assertIs(is_joining(flipped(ring(4), a, b), good), False)
        self.assertIs(is_joining(other(ring(4)), good), False)
        self.assertIs(is_joining(ring(4) + [0], good), False)


class IsLineOfFourTest(unittest.TestCase):
    def test_lines_of_each_size(self):
        for many in range(1, 15):
            self.assertIs(is_line_of_four(row(many), list(range(many))), many == 4)
        self.assertIs(is_line_of_four(row(5), []), False)

    def test_all_orders_of_points(self):
        for web in small_webs(4) + [row(5), ring(5)]:
            for size in range(len(web) + 1):
                for some in permutations(range(len(web)), size):
                    check_agrees(self, is_line_of_four, right_line_of_four, web, list(some))

    def test_a_tie_too_many(self):
        for a, b in [(0, 2), (0, 3), (1, 3)]:
            self.assertIs(is_line_of_four(flipped(row(4), a, b), [0, 1, 2, 3]), False)

    def test_near_lists(self):
        for web in great_webs():
            for near in near_lists(line_of_four(web) or [0, 1, 2, 3], len(web)):
                check_agrees(self, is_line_of_four, right_line_of_four, web, near)
        for number in no_points(4):
            self.assertIs(is_line_of_four(row(4), [0, 1, 2, number]), False)
