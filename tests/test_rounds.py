import unittest
from itertools import permutations, product

from cotreehall.rounds import chordless, is_chordless, is_taking, taking
from helper import (
    HUGE, WIDE, apart, bare, check_agrees, check_free, check_numbers, check_one_is_none, flipped, full, great_webs,
    near_lists, no_points, other, right_chordless, right_taking, ring, row, small_webs)


class RoundsTest(unittest.TestCase):
    def check_web(self, web):
        order, against = taking(web), chordless(web)
        check_one_is_none(self, order, against, web)
        if order is None:
            check_numbers(self, against)
            self.assertTrue(right_chordless(web, against), (web, against))
        else:
            check_numbers(self, order)
            self.assertTrue(right_taking(web, order), (web, order))

    def test_by_hand(self):
        self.assertEqual(taking([]), [])
        self.assertEqual(taking([0]), [0])
        self.assertIsNone(chordless([]))
        self.assertIsNone(chordless([0]))
        self.assertIsNone(chordless(full(3)))
        self.assertIsNone(chordless(row(14)))
        self.assertIsNone(taking(ring(4)))
        self.assertEqual(sorted(chordless(ring(4))), [0, 1, 2, 3])
        self.assertEqual(sorted(chordless(apart(full(4), ring(5)))), [4, 5, 6, 7, 8])
        self.assertEqual(len(chordless(other(ring(6)))), 4)

    def test_rings_alone_have_no_order(self):
        for many in range(4, 15):
            self.assertIsNone(taking(ring(many)))
            self.assertEqual(len(chordless(ring(many))), many)

    def test_all_webs_of_up_to_five_points(self):
        for web in small_webs(5):
            self.check_web(web)

    def test_greater_webs(self):
        for web in great_webs():
            self.check_web(web)

    def test_rings_with_a_tie_across(self):
        for many in range(4, 15):
            for b in range(2, many - 1):
                self.check_web(flipped(ring(many), 0, b))

    def test_lists(self):
        for web in [[], [0], bare(3), row(5), ring(5), full(14), ring(14)]:
            check_free(self, taking, web)
            check_free(self, chordless, web)


class IsTakingTest(unittest.TestCase):
    def test_all_orders_in_small_webs(self):
        for web in small_webs(4):
            for some in permutations(range(len(web))):
                check_agrees(self, is_taking, right_taking, web, list(some))

    def test_all_lists_of_three_numbers(self):
        for web in small_webs(3):
            for size in range(5):
                for some in product([-1, 0, 1, 2, 3], repeat=size):
                    check_agrees(self, is_taking, right_taking, web, list(some))

    def test_orders_of_webs_of_five_points(self):
        for web in [row(5), ring(5), other(row(5)), flipped(ring(5), 0, 2), apart(full(3), row(2))]:
            for some in permutations(range(5)):
                check_agrees(self, is_taking, right_taking, web, list(some))

    def test_near_lists(self):
        for web in great_webs():
            order = taking(web) or list(range(len(web)))
            for near in near_lists(order, len(web)):
                check_agrees(self, is_taking, right_taking, web, near)

    def test_by_hand(self):
        self.assertIs(is_taking(row(3), [0, 1, 2]), True)
        self.assertIs(is_taking(row(3), [1, 0, 2]), False)
        self.assertIs(is_taking([], []), True)
        self.assertIs(is_taking([0], []), False)
        self.assertIs(is_taking([], [0]), False)
        self.assertIs(is_taking(row(3), [0, 1]), False)
        self.assertIs(is_taking(row(3), [0, 1, 1, 2]), False)
        for number in no_points(3):
            self.assertIs(is_taking(row(3), [0, 1, number]), False)
            self.assertIs(is_taking(row(3), [0, 1, 2, number]), False)


class IsChordlessTest(unittest.TestCase):
    def test_rings_of_each_size(self):
        for many in range(3, 15):
            some = list(range(many))
            self.assertIs(is_chordless(ring(many), some), many > 3)
            self.assertIs(is_chordless(ring(many), some[1:] + some[:1]), many > 3)

    def test_a_tie_across_and_two_exchanged(self):
        for many in range(4, 15):
            some = list(range(many))
            for b in range(2, many - 1):
                self.assertIs(is_chordless(flipped(ring(many), 0, b), some), False)
            self.assertIs(is_chordless(ring(many), [1, 0] + some[2:]), False)

    def test_all_orders_of_points(self):
        for web in small_webs(4) + [ring(5), flipped(ring(5), 0, 2), full(5)]:
            for size in range(len(web) + 1):
                for some in permutations(range(len(web)), size):
                    check_agrees(self, is_chordless, right_chordless, web, list(some))

    def test_near_lists(self):
        for web in great_webs():
            some = chordless(web) or [0, 1, 2, 3]
            for near in near_lists(some, len(web)):
                check_agrees(self, is_chordless, right_chordless, web, near)

    def test_numbers_of_sixty_figures(self):
        for number in [HUGE, -HUGE, WIDE, -WIDE]:
            self.assertIs(is_chordless(ring(4), [0, 1, 2, number]), False)
            self.assertIs(is_taking(full(4), [0, 1, 2, number]), False)
