import unittest
from itertools import permutations

from cotreehall.halving import halves, is_halves, is_no_halves, no_halves
from helper import (
    HUGE, WIDE, apart, bare, check_agrees, check_free, check_numbers, check_one_is_none, flipped, full, great_webs,
    is_whole_number, near_lists, no_points, other, right_halves, right_no_halves, ring, row, small_webs)


class HalvesTest(unittest.TestCase):
    def check_web(self, web):
        told, against = halves(web), no_halves(web)
        check_one_is_none(self, told, against, web)
        if told is None:
            check_numbers(self, against)
            self.assertTrue(right_no_halves(web, against), (web, against))
        else:
            self.assertIs(type(told), tuple)
            self.assertEqual(len(told), 2)
            self.assertTrue(all(is_whole_number(some) for some in told))
            self.assertTrue(right_halves(web, *told), (web, told))

    def test_by_hand(self):
        self.assertEqual(halves([]), (0, 0))
        self.assertIsNone(no_halves([]))
        self.assertIsNone(halves(ring(4)))
        self.assertIsNone(halves(ring(5)))
        self.assertIsNone(halves(apart(row(2), row(2))))
        self.assertEqual(halves(row(4)), (0b0110, 0b1001))
        self.assertIsNone(no_halves(row(4)))
        self.assertEqual(sorted(no_halves(ring(5))), [0, 1, 2, 3, 4])
        self.assertEqual(len(no_halves(ring(6))), 4)
        self.assertEqual(sorted(no_halves(apart(row(2), row(2)))), [0, 1, 2, 3])

    def test_all_webs_of_up_to_five_points(self):
        for web in small_webs(5):
            self.check_web(web)

    def test_greater_webs(self):
        for web in great_webs():
            self.check_web(web)

    def test_each_piece_alone_amid_split_webs(self):
        for piece in [ring(4), ring(5), apart(row(2), row(2)), other(ring(5)), ring(6), other(ring(6))]:
            self.check_web(apart(piece, bare(8)))
            self.check_web(other(apart(piece, bare(8))))
            self.check_web(other(apart(bare(7), piece)))

    def test_lists(self):
        for web in [[], [0], row(4), ring(4), ring(5), apart(row(2), row(2)), full(14)]:
            check_free(self, halves, web)
            check_free(self, no_halves, web)


class IsHalvesTest(unittest.TestCase):
    def test_all_small_numbers(self):
        for web in small_webs(3):
            for first in range(-9, 17):
                for second in range(-9, 17):
                    check_agrees(self, is_halves, right_halves, web, first, second)

    def test_webs_of_four_points(self):
        for web in small_webs(4):
            for first in range(16):
                for second in [15 - first, 15, 0, (15 - first) | 1, (15 - first) & 7, 31 - first, first]:
                    check_agrees(self, is_halves, right_halves, web, first, second)

    def test_numbers_below_nought_and_of_sixty_figures(self):
        for web in [[], [0], row(4), full(14), bare(14)]:
            first, second = halves(web)
            self.assertIs(is_halves(web, first, second), True)
            for number in [-1, -2, -16, HUGE, WIDE, -HUGE, -WIDE, 2 ** len(web)]:
                self.assertIs(is_halves(web, first, number), False)
                self.assertIs(is_halves(web, number, second), False)
                self.assertIs(is_halves(web, number, number), False)
                self.assertIs(is_halves(web, -1 - number, number), False)
            self.assertIs(is_halves(web, first + 2 ** len(web), second), False)
            self.assertIs(is_halves(web, first, second + 2 ** 150), False)

    def test_a_point_in_both_or_in_neither(self):
        for web in [bare(1), full(5), row(4), bare(5)]:
            first, second = halves(web)
            for p in range(len(web)):
                self.assertIs(is_halves(web, first | 1 << p, second | 1 << p), False)
                self.assertIs(is_halves(web, first & ~(1 << p), second & ~(1 << p)), False)

    def test_greater_webs(self):
        for web in great_webs():
            first = halves(web)[0] if halves(web) else 5
            for p in range(len(web)):
                changed = first ^ 1 << p
                check_agrees(self, is_halves, right_halves, web, changed, 2 ** len(web) - 1 - changed)


class IsNoHalvesTest(unittest.TestCase):
    def test_two_ties_in_this_order_alone(self):
        web = apart(row(2), row(2))
        right = [[0, 1, 2, 3], [1, 0, 2, 3], [0, 1, 3, 2], [1, 0, 3, 2], [2, 3, 0, 1], [3, 2, 0, 1], [2, 3, 1, 0],
                 [3, 2, 1, 0]]
        for some in permutations(range(4)):
            self.assertIs(is_no_halves(web, list(some)), list(some) in right)

    def test_rings_of_each_size(self):
        for many in range(3, 15):
            self.assertIs(is_no_halves(ring(many), list(range(many))), many in (4, 5))
            self.assertIs(is_no_halves(ring(many), list(range(many - 1, -1, -1))), many in (4, 5))

    def test_all_orders_of_points(self):
        for web in small_webs(4) + [ring(5), flipped(ring(5), 0, 2), full(5), ring(6), apart(row(3), row(2))]:
            for size in range(len(web) + 1):
                for some in permutations(range(len(web)), size):
                    check_agrees(self, is_no_halves, right_no_halves, web, list(some))

    def test_numbers_that_are_no_points(self):
        for web, some in [(ring(4), [0, 1, 2, 3]), (ring(5), [0, 1, 2, 3, 4]), (apart(row(2), row(2)), [0, 1, 2, 3])]:
            for k in range(len(some)):
                for number in no_points(len(web)):
                    self.assertIs(is_no_halves(web, some[:k] + [number] + some[k + 1:]), False)

    def test_near_lists(self):
        for web in great_webs():
            for near in near_lists(no_halves(web) or [0, 1, 2, 3], len(web)):
                check_agrees(self, is_no_halves, right_no_halves, web, near)
