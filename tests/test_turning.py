import unittest
from itertools import permutations, product

from cotreehall.turning import is_no_turning, is_turning, no_turning, turning
from helper import (
    HUGE, WIDE, apart, arrows_in, bare, check_agrees, check_free, check_kept, check_numbers, check_one_is_none,
    check_rows, full, great_webs, is_whole_number, near_lists, near_rows, no_points, other, right_chain,
    right_no_turning, right_turning, ring, row, small_webs)

FIVE = [[0, 1], [2, 1], [2, 3], [4, 3], [4, 0], [1, 0]]


class TurningTest(unittest.TestCase):
    def check_web(self, web):
        told, against = turning(web), no_turning(web)
        check_one_is_none(self, told, against, web)
        if told is None:
            self.check_against(web, against)
        else:
            self.assertIs(type(told), tuple)
            self.assertEqual(len(told), 2)
            for order in told:
                check_numbers(self, order)
            self.assertTrue(right_turning(web, *told), (web, told))

    def check_against(self, web, against):
        self.assertIs(type(against), tuple)
        mark, rows = against
        self.assertTrue(is_whole_number(mark) and mark in (0, 1))
        check_rows(self, rows)
        asked = web if mark == 0 else other(web)
        self.assertTrue(right_chain(asked, rows), (web, against))
        self.assertLessEqual(len(rows), len(arrows_in(asked)))

    def test_by_hand(self):
        self.assertEqual(turning([]), ([], []))
        self.assertIsNone(no_turning([]))
        self.assertEqual(turning([0]), ([0], [0]))
        self.assertIn(turning(full(2)), [([0, 1], [1, 0]), ([1, 0], [0, 1])])
        self.assertIn(turning(bare(2)), [([0, 1], [0, 1]), ([1, 0], [1, 0])])
        self.assertIsNone(turning(ring(5)))
        self.assertIsNone(turning(ring(6)))
        self.assertEqual(no_turning(ring(6))[0], 1)
        self.assertEqual(no_turning(other(ring(6)))[0], 0)
        self.assertIsNone(no_turning(row(14)))

    def test_all_webs_of_up_to_five_points(self):
        for web in small_webs(5):
            self.check_web(web)

    def test_greater_webs(self):
        for web in great_webs():
            self.check_web(web)

    def test_lists(self):
        for web in [[], [0], row(5), full(14), ring(5), ring(6), other(ring(6))]:
            check_free(self, turning, web)
            check_free(self, no_turning, web)


class IsTurningTest(unittest.TestCase):
    def test_all_two_orders_in_small_webs(self):
        for web in small_webs(3):
            for one, two in product(permutations(range(len(web))), repeat=2):
                check_agrees(self, is_turning, right_turning, web, list(one), list(two))

    def test_all_second_orders_in_webs_of_four(self):
        for web in small_webs(4):
            for one in [[0, 1, 2, 3], [2, 0, 3, 1]]:
                for two in permutations(range(4)):
                    check_agrees(self, is_turning, right_turning, web, one, list(two))

    def test_near_lists_on_either_side(self):
        for web in [[], [0], row(3), row(4), ring(4), full(14), bare(14)] + great_webs()[-9:]:
            one, two = turning(web) or (list(range(len(web))), list(range(len(web))))
            for near in near_lists(one, len(web)):
                check_agrees(self, is_turning, right_turning, web, near, two)
            for near in near_lists(two, len(web)):
                check_agrees(self, is_turning, right_turning, web, one, near)

    def test_by_hand(self):
        self.assertIs(is_turning([], [], []), True)
        self.assertIs(is_turning([0], [0], [0]), True)
        self.assertIs(is_turning([0], [], []), False)
        self.assertIs(is_turning([0], [0], []), False)
        self.assertIs(is_turning([], [], [0]), False)
        self.assertIs(is_turning(full(3), [0, 1, 2], [2, 1, 0]), True)
        self.assertIs(is_turning(full(3), [2, 1, 0], [0, 1, 2]), True)
        self.assertIs(is_turning(full(3), [0, 1, 2], [0, 1, 2]), False)
        self.assertIs(is_turning(bare(3), [0, 1, 2], [0, 1, 2]), True)
        for number in no_points(3):
            self.assertIs(is_turning(full(3), [0, 1, number], [number, 1, 0]), False)
            self.assertIs(is_turning(full(3), [0, 1, 2, number], [number, 2, 1, 0]), False)


class IsNoTurningTest(unittest.TestCase):
    def test_marks(self):
        ring_of_other = other(ring(6))
        against = no_turning(ring_of_other)[1]
        self.assertIs(is_no_turning(ring_of_other, 0, against), True)
        self.assertIs(is_no_turning(ring_of_other, 1, against), False)
        self.assertIs(is_no_turning(ring(6), 1, against), True)
        self.assertIs(is_no_turning(ring(6), 0, against), False)
        for mark in [2, -1, 3, HUGE, WIDE, -HUGE, -WIDE]:
            self.assertIs(is_no_turning(ring(6), mark, against), False)
            self.assertIs(is_no_turning(ring_of_other, mark, against), False)

    def test_a_web_with_chains_of_both(self):
        across = [[2 * a % 5, 2 * b % 5] for a, b in FIVE]
        self.assertIs(is_no_turning(ring(5), 0, FIVE), True)
        self.assertIs(is_no_turning(ring(5), 1, across), True)
        self.assertIs(is_no_turning(ring(5), 1, FIVE), False)
        self.assertIs(is_no_turning(ring(5), 0, across), False)
        self.assertIs(is_no_turning(ring(5), 0, FIVE[:2] * 20 + FIVE), True)

    def test_near_rows(self):
        for web in [ring(5), ring(6), other(ring(6)), apart(ring(5), bare(2)), row(3)]:
            rows = (no_turning(web) or (0, [[0, 1], [1, 0]]))[1]
            for near in near_rows(rows, len(web)):
                for mark in [0, 1, 2]:
                    check_agrees(self, is_no_turning, right_no_turning, web, mark, near)

    def test_lists_are_kept(self):
        for mark in [0, 1, -1]:
            check_kept(self, is_no_turning, ring(5), mark, [list(told) for told in FIVE])
