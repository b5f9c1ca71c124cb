import unittest
from itertools import combinations, permutations, product

from cotreehall.triples import is_triple, triple
from helper import (
    HUGE, WIDE, apart, bare, check_agrees, check_free, check_numbers, full, great_webs, near_lists, no_points, other,
    renamed, right_triple, ring, row, small_webs)

# Three lines of two points that begin at point 0: the ends 2, 4 and 6 go round one another.
THREE_ARMS = [0b101010, 0b101, 0b10, 0b10001, 0b1000, 0b1000001, 0b100000]


def first_triple(web):
    found = [list(some) for some in combinations(range(len(web)), 3) if right_triple(web, list(some))]
    return min(found, default=None)


class TripleTest(unittest.TestCase):
    def test_by_hand(self):
        for web in [[], [0], full(3), bare(14), full(14), row(14), ring(5), ring(4)]:
            self.assertIsNone(triple(web))
        self.assertEqual(triple(THREE_ARMS), [2, 4, 6])
        self.assertEqual(triple(ring(6)), [0, 2, 4])
        self.assertEqual(triple(apart(bare(2), ring(6))), [2, 4, 6])
        self.assertEqual(triple(ring(14)), [0, 2, 4])

    def test_the_first_one_of_all(self):
        for web in small_webs(4) + great_webs() + [apart(THREE_ARMS, ring(7)), apart(ring(7), THREE_ARMS)]:
            told = triple(web)
            self.assertEqual(told, first_triple(web), web)
            if told is not None:
                check_numbers(self, told)

    def test_any_numbering(self):
        for order in list(permutations(range(7)))[::37]:
            web = renamed(THREE_ARMS, order)
            self.assertEqual(triple(web), sorted([order[2], order[4], order[6]]))
        for order in permutations(range(6)):
            self.assertEqual(triple(renamed(ring(6), order)), first_triple(renamed(ring(6), order)))

    def test_lists(self):
        for web in [[], row(5), ring(6), THREE_ARMS, ring(14)]:
            check_free(self, triple, web)


class IsTripleTest(unittest.TestCase):
    def test_any_order(self):
        for some in permutations([2, 4, 6]):
            self.assertIs(is_triple(THREE_ARMS, list(some)), True)

    def test_all_three_numbers(self):
        for web in [ring(5), ring(6), ring(7), THREE_ARMS, other(ring(6)), row(6)] + small_webs(3):
            for some in product(range(-1, len(web) + 1), repeat=3):
                check_agrees(self, is_triple, right_triple, web, list(some))

    def test_greater_webs(self):
        for web in great_webs():
            for some in combinations(range(0, len(web), 2), 3):
                check_agrees(self, is_triple, right_triple, web, list(some))

    def test_two_numbers_four_and_wrong_ones(self):
        for some in [[], [2], [2, 4], [2, 4, 6, 0], [2, 4, 4], [2, 2, 6], [2, 4, 6, 6]]:
            self.assertIs(is_triple(THREE_ARMS, some), False)
        for k in range(3):
            for number in no_points(7) + [HUGE, -WIDE]:
                some = [2, 4, 6]
                some[k] = number
                self.assertIs(is_triple(THREE_ARMS, some), False)
        for near in near_lists([2, 4, 6], 7):
            check_agrees(self, is_triple, right_triple, THREE_ARMS, near)
