import unittest
from itertools import permutations, product

from cotreehall.shapes import is_line, is_ring
from helper import (
    HUGE, WIDE, bare, check_agrees, check_kept, flipped, full, great_webs, near_lists, no_points, renamed, right_line,
    right_ring, ring, row, small_webs)


class LineTest(unittest.TestCase):
    def test_the_list_of_no_numbers_is_none(self):
        for web in [[], [0], row(5), full(14)]:
            self.assertIs(is_line(web, []), False)

    def test_one_number(self):
        for web in [[], [0], row(3), bare(14), full(14)]:
            for p in range(len(web)):
                self.assertIs(is_line(web, [p]), True)
            for p in no_points(len(web)):
                self.assertIs(is_line(web, [p]), False)

    def test_two_and_three_points(self):
        self.assertIs(is_line(row(3), [0, 1]), True)
        self.assertIs(is_line(row(3), [2, 1]), True)
        self.assertIs(is_line(row(3), [0, 2]), False)
        self.assertIs(is_line(row(3), [0, 0]), False)
        self.assertIs(is_line(row(3), [0, 1, 2]), True)
        self.assertIs(is_line(row(3), [1, 0, 2]), False)
        self.assertIs(is_line(full(3), [0, 1, 2]), False)
        self.assertIs(is_line(row(3), [0, 1, 0]), False)

    def test_fourteen_points_with_one_tie_too_many_or_too_few(self):
        for some in [list(range(14)), list(range(13, -1, -1))]:
            self.assertIs(is_line(row(14), some), True)
            self.assertIs(is_line(ring(14), some), False)
            for k in range(13):
                self.assertIs(is_line(flipped(row(14), k, k + 1), some), False)
            for k in range(12):
                self.assertIs(is_line(flipped(row(14), k, 13), some), False)

    def test_any_numbering(self):
        for order in permutations(range(5)):
            web = renamed(row(5), order)
            self.assertIs(is_line(web, list(order)), True)
            self.assertIs(is_line(web, list(order)[1:4]), True)
            self.assertIs(is_line(web, list(order)[::2]), False)


class RingTest(unittest.TestCase):
    def test_less_than_three_numbers_are_none(self):
        for web in [[], [0], full(2), full(3), ring(5)]:
            for some in [[], [0], [0, 1], [0, 0], [1, 0]]:
                self.assertIs(is_ring(web, some), False)

    def test_three_points(self):
        for some in permutations(range(3)):
            self.assertIs(is_ring(full(3), list(some)), True)
            self.assertIs(is_ring(row(3), list(some)), False)
        self.assertIs(is_ring(full(3), [0, 1, 1]), False)
        self.assertIs(is_ring(full(3), [0, 1, 0]), False)

    def test_begun_anywhere_and_either_way_round(self):
        for many in range(3, 15):
            for k in range(many):
                some = list(range(k, many)) + list(range(k))
                self.assertIs(is_ring(ring(many), some), True)
                self.assertIs(is_ring(ring(many), some[::-1]), True)
                self.assertIs(is_ring(ring(many), some[1:]), False)
                self.assertIs(is_ring(ring(many), some + some[:1]), False)

    def test_one_tie_too_many_or_too_few(self):
        for many in range(4, 15):
            for a in range(many):
                for b in range(a):
                    self.assertIs(is_ring(flipped(ring(many), a, b), list(range(many))), False)

    def test_two_exchanged(self):
        self.assertIs(is_ring(ring(5), [1, 0, 2, 3, 4]), False)
        self.assertIs(is_ring(ring(4), [0, 2, 1, 3]), False)


class BothTest(unittest.TestCase):
    def test_all_lists_in_small_webs(self):
        for web in small_webs(3):
            for size in range(5):
                for some in product([-1, 0, 1, 2, 3], repeat=size):
                    check_agrees(self, is_line, right_line, web, list(some))
                    check_agrees(self, is_ring, right_ring, web, list(some))

    def test_all_orders_of_points_in_webs_of_four(self):
        for web in small_webs(4):
            for size in range(len(web) + 1):
                for some in permutations(range(len(web)), size):
                    check_agrees(self, is_line, right_line, web, list(some))
                    check_agrees(self, is_ring, right_ring, web, list(some))

    def test_near_lists_in_greater_webs(self):
        for web in great_webs()[:40]:
            for some in [list(range(len(web))), [0, 1, 2], [2, 1, 0, len(web) - 1]]:
                for near in near_lists(some, len(web)):
                    check_agrees(self, is_line, right_line, web, near)
                    check_agrees(self, is_ring, right_ring, web, near)

    def test_numbers_of_sixty_figures(self):
        for number in [HUGE, -HUGE, WIDE, -WIDE]:
            for k in range(4):
                some = [0, 1, 2, 3]
                some[k] = number
                self.assertIs(is_line(row(4), some), False)
                self.assertIs(is_ring(ring(4), some), False)

    def test_long_lists(self):
        self.assertIs(is_line(row(14), list(range(14)) * 28), False)
        self.assertIs(is_ring(ring(14), list(range(400))), False)

    def test_lists_are_kept(self):
        for asked in [is_line, is_ring]:
            for some in [[], [0, 1, 2, 3, 4], [4, 4], [-1, WIDE]]:
                check_kept(self, asked, ring(5), some)
