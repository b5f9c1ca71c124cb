import unittest
from itertools import permutations

from cotreehall.sides import is_odd_ring, is_sides, odd_ring, sides
from helper import (
    HUGE, WIDE, apart, bare, check_agrees, check_free, check_kept, check_numbers, check_one_is_none, flipped, full,
    great_webs, is_whole_number, near_lists, right_odd_ring, right_sides, ring, row, small_webs)


def least_points(web):
    """The least point of each piece, found by spreading from each point in turn."""
    found, seen = [], set()
    for p in range(len(web)):
        if p not in seen:
            found.append(p)
        waiting = [p]
        while waiting:
            q = waiting.pop()
            seen.add(q)
            waiting += [r for r in range(len(web)) if web[q] >> r & 1 and r not in seen]
    return found


class SidesTest(unittest.TestCase):
    def check_web(self, web):
        left, against = sides(web), odd_ring(web)
        check_one_is_none(self, left, against, web)
        if left is None:
            check_numbers(self, against)
            self.assertTrue(right_odd_ring(web, against), (web, against))
        else:
            self.assertTrue(is_whole_number(left))
            self.assertTrue(right_sides(web, left), (web, left))
            for p in least_points(web):
                self.assertTrue(left >> p & 1, (web, left))

    def test_by_hand(self):
        self.assertEqual(sides(row(5)), 0b10101)
        self.assertEqual(sides(ring(6)), 0b010101)
        self.assertEqual(sides(apart(row(2), row(3))), 0b10101)
        self.assertEqual(sides(apart(bare(2), row(3))), 0b10111)
        self.assertIsNone(sides(ring(5)))
        self.assertIsNone(odd_ring(ring(6)))
        self.assertEqual(sorted(odd_ring(ring(5))), [0, 1, 2, 3, 4])
        self.assertEqual(sorted(odd_ring(apart(ring(4), ring(5)))), [4, 5, 6, 7, 8])
        self.assertEqual(sorted(odd_ring(full(3))), [0, 1, 2])

    def test_webs_of_no_point_and_of_one(self):
        self.assertEqual(sides([]), 0)
        self.assertIsNone(odd_ring([]))
        self.assertEqual(sides([0]), 1)
        self.assertIsNone(odd_ring([0]))

    def test_points_without_ties_lie_at_the_left(self):
        for many in range(15):
            self.assertEqual(sides(bare(many)), 2 ** many - 1)

    def test_all_webs_of_up_to_five_points(self):
        for web in small_webs(5):
            self.check_web(web)

    def test_greater_webs(self):
        for web in great_webs():
            self.check_web(web)

    def test_odd_rings_with_a_tie_across(self):
        for many in range(5, 15):
            for b in range(2, many - 1):
                self.check_web(flipped(ring(many), 0, b))

    def test_lists(self):
        for web in [[], bare(3), ring(5), ring(6), full(14)]:
            check_free(self, sides, web)
            check_free(self, odd_ring, web)


class IsSidesTest(unittest.TestCase):
    def test_all_small_numbers(self):
        for web in small_webs(4):
            for left in range(-20, 40):
                check_agrees(self, is_sides, right_sides, web, left)

    def test_any_two_sides_in_greater_webs(self):
        for web in great_webs():
            for left in [0, 0b01010101010101, 0b10101010101010, 2 ** len(web) - 1, 2 ** len(web), 1]:
                check_agrees(self, is_sides, right_sides, web, left)

    def test_either_side_may_be_the_left_one(self):
        self.assertIs(is_sides(ring(6), 0b010101), True)
        self.assertIs(is_sides(ring(6), 0b101010), True)
        self.assertIs(is_sides(apart(row(2), row(2)), 0b0110), True)
        self.assertIs(is_sides(bare(3), 0b010), True)

    def test_points_that_the_web_has_not(self):
        for web in [[], [0], row(3), ring(6), bare(14)]:
            left = sides(web)
            self.assertIs(is_sides(web, left), True)
            for number in [2 ** len(web), 2 ** 30, 2 ** 190, 2 ** len(web) * 3]:
                self.assertIs(is_sides(web, left + number), False)

    def test_numbers_of_sixty_figures_and_below_nought(self):
        for web in [[], [0], row(3), ring(6), bare(14)]:
            for left in [-1, -2, HUGE, WIDE, -HUGE, -WIDE, -(2 ** len(web))]:
                self.assertIs(is_sides(web, left), False)

    def test_webs_are_kept(self):
        for left in [0, 21, -1, WIDE]:
            check_kept(self, is_sides, ring(6), left)


class IsOddRingTest(unittest.TestCase):
    def test_rings_of_each_size(self):
        for many in range(3, 15):
            for some in [list(range(many)), list(range(many - 1, -1, -1))]:
                self.assertIs(is_odd_ring(ring(many), some), many % 2 == 1)

    def test_all_orders_of_points_in_small_webs(self):
        for web in small_webs(4) + [ring(5), flipped(ring(5), 0, 2), full(5)]:
            for size in range(len(web) + 1):
                for some in permutations(range(len(web)), size):
                    check_agrees(self, is_odd_ring, right_odd_ring, web, list(some))

    def test_near_lists(self):
        for web in [full(3), ring(4), ring(5), ring(7), ring(13), full(14), apart(ring(5), ring(5))]:
            for some in [[0, 1, 2], [0, 1, 2, 3, 4], list(range(len(web)))]:
                for near in near_lists(some, len(web)):
                    check_agrees(self, is_odd_ring, right_odd_ring, web, near)
