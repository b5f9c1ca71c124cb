import unittest
from itertools import product

from cotreehall.forcing import arrows, chain, forced, is_arrows, is_chain
from helper import (
    HUGE, WIDE, apart, arrows_in, bare, check_agrees, check_free, check_kept, check_one_is_none, check_rows, full,
    great_webs, made, mixed, near_rows, no_points, other, right_arrows, right_chain, right_forced, ring, row,
    small_webs)

FIVE = [[0, 1], [2, 1], [2, 3], [4, 3], [4, 0], [1, 0]]


class ForcedTest(unittest.TestCase):
    def test_each_of_the_two_ways(self):
        self.assertIs(forced(row(3), [1, 0], [1, 2]), True)
        self.assertIs(forced(row(3), [0, 1], [2, 1]), True)
        self.assertIs(forced(full(3), [1, 0], [1, 2]), False)
        self.assertIs(forced(full(3), [0, 1], [2, 1]), False)
        self.assertIs(forced(row(3), [0, 1], [1, 2]), False)
        self.assertIs(forced(row(3), [1, 0], [2, 1]), False)

    def test_an_arrow_and_itself_and_turned_round(self):
        for web in [row(2), row(3), full(4), ring(5), mixed(14)]:
            for a, b in arrows_in(web):
                self.assertIs(forced(web, [a, b], [a, b]), False)
                self.assertIs(forced(web, [a, b], [b, a]), False)

    def test_all_two_arrows(self):
        for web in small_webs(4) + [ring(5), other(ring(6)), mixed(9)]:
            for one, two in product(arrows_in(web), repeat=2):
                check_agrees(self, forced, right_forced, web, one, two)


class ArrowsTest(unittest.TestCase):
    def check_web(self, web):
        rows, against = arrows(web), chain(web)
        check_one_is_none(self, rows, against, web)
        if rows is None:
            check_rows(self, against)
            self.assertTrue(right_chain(web, against), (web, against))
            self.assertLessEqual(len(against), len(arrows_in(web)))
        else:
            check_rows(self, rows)
            self.assertTrue(right_arrows(web, rows), (web, rows))

    def test_by_hand(self):
        for web in [[], [0], bare(14)]:
            self.assertEqual(arrows(web), [])
            self.assertIsNone(chain(web))
        self.assertIn(arrows(row(2)), [[[0, 1]], [[1, 0]]])
        self.assertIn(sorted(arrows(row(3))), [[[0, 1], [2, 1]], [[1, 0], [1, 2]]])
        self.assertIsNone(arrows(ring(5)))
        self.assertIsNone(chain(ring(6)))

    def test_odd_rings_and_their_like(self):
        for many in range(3, 15):
            self.assertEqual(arrows(ring(many)) is None, many > 3 and many % 2 == 1)
            self.assertEqual(arrows(other(ring(many))) is None, many > 4)

    def test_all_webs_of_up_to_five_points(self):
        for web in small_webs(5):
            self.check_web(web)

    def test_greater_webs(self):
        for web in great_webs():
            self.check_web(web)

    def test_nearly_all_tied(self):
        for many in range(3, 15):
            self.check_web(full(many))
            for ties in [[(0, 1)], [(0, 1), (1, 2)], [(0, 1), (2, 3)]]:
                if many > 3:
                    self.check_web(other(made(many, ties)))

    def test_lists(self):
        for web in [[], bare(3), row(3), full(5), ring(5), other(ring(6)), full(14)]:
            check_free(self, arrows, web)
            check_free(self, chain, web)


class IsArrowsTest(unittest.TestCase):
    def test_all_choices_in_small_webs(self):
        for web in small_webs(4):
            ties = [arrow for arrow in arrows_in(web) if arrow[0] < arrow[1]]
            for turns in product([False, True], repeat=len(ties)):
                rows = [tie[::-1] if turn else tie for tie, turn in zip(ties, turns)]
                check_agrees(self, is_arrows, right_arrows, web, rows)
                check_agrees(self, is_arrows, right_arrows, web, rows[::-1])

    def test_near_rows(self):
        for web in small_webs(3) + [row(4), ring(4), ring(5), full(4), full(6), bare(5)]:
            rows = arrows(web) or [arrow for arrow in arrows_in(web) if arrow[0] < arrow[1]]
            for near in near_rows(rows, len(web)):
                check_agrees(self, is_arrows, right_arrows, web, near)

    def test_greater_webs(self):
        for web in great_webs():
            rows = arrows(web)
            if rows:
                self.assertIs(is_arrows(web, rows), True)
                self.assertIs(is_arrows(web, rows[::-1]), True)
                self.assertIs(is_arrows(web, [told[::-1] for told in rows]), True)
                for near in [rows[1:], rows[:-1], rows + rows[:1], rows + [rows[0][::-1]], rows + [[0, 0]]]:
                    self.assertIs(is_arrows(web, near), False)
                for k in range(0, len(rows), 5):
                    turned = rows[:k] + [rows[k][::-1]] + rows[k + 1:]
                    check_agrees(self, is_arrows, right_arrows, web, turned)

    def test_by_hand(self):
        self.assertIs(is_arrows(bare(3), []), True)
        self.assertIs(is_arrows([], []), True)
        self.assertIs(is_arrows(row(2), []), False)
        self.assertIs(is_arrows(row(2), [[0, 1], [1, 0]]), False)
        self.assertIs(is_arrows(row(2), [[0, 1], [0, 1]]), False)
        self.assertIs(is_arrows(row(2), [[0]]), False)
        self.assertIs(is_arrows(row(2), [[]]), False)
        self.assertIs(is_arrows(row(2), [[0, 1, 0]]), False)
        self.assertIs(is_arrows(full(3), [[0, 1], [1, 2], [0, 2]]), True)
        self.assertIs(is_arrows(full(3), [[0, 1], [1, 2], [2, 0]]), False)
        self.assertIs(is_arrows(full(3), [[0, 1], [1, 2]]), False)
        for number in no_points(3):
            self.assertIs(is_arrows(row(3), [[0, 1], [2, number]]), False)
            self.assertIs(is_arrows(row(3), [[0, 1], [number, 1]]), False)
            self.assertIs(is_arrows(row(3), [[0, 1], [2, 1], [0, number]]), False)


class IsChainTest(unittest.TestCase):
    def test_by_hand(self):
        self.assertIs(is_chain(ring(5), FIVE), True)
        self.assertIs(is_chain(ring(5), FIVE[::-1]), True)
        self.assertIs(is_chain(ring(5), [told[::-1] for told in FIVE]), True)
        self.assertIs(is_chain(ring(5), FIVE[:-1]), False)
        self.assertIs(is_chain(ring(5), FIVE[1:]), False)
        self.assertIs(is_chain(ring(5), []), False)
        self.assertIs(is_chain(ring(5), [[]]), False)
        self.assertIs(is_chain(row(2), [[0, 1], [1, 0]]), False)

    def test_one_arrow(self):
        for told in arrows_in(ring(5)):
            self.assertIs(is_chain(ring(5), [told]), False)

    def test_an_arrow_several_times_and_longer_chains_than_the_web_has_arrows(self):
        rows = FIVE[:2] + FIVE[:2] + FIVE
        check_agrees(self, is_chain, right_chain, ring(5), rows)
        back_and_forth = FIVE[:2] * 50 + FIVE
        self.assertIs(right_chain(ring(5), back_and_forth), True)
        self.assertIs(is_chain(ring(5), back_and_forth), True)
        self.assertIs(is_chain(ring(5), FIVE[:2] * 190 + FIVE), True)
        self.assertIs(is_chain(ring(5), FIVE[:1] * 2 + FIVE[1:]), False)

    def test_chains_of_another_web(self):
        self.assertIs(is_chain(apart(ring(5), bare(2)), FIVE), True)
        self.assertIs(is_chain(other(ring(5)), FIVE), False)
        self.assertIs(is_chain(ring(6), FIVE), False)
        self.assertIs(is_chain(full(5), FIVE), False)
        self.assertIs(is_chain(bare(4), FIVE), False)

    def test_near_rows(self):
        for web in [ring(5), other(ring(6)), other(ring(7)), apart(bare(3), ring(5))]:
            for near in near_rows(chain(web), len(web)):
                check_agrees(self, is_chain, right_chain, web, near)
        for web in small_webs(3) + [row(4), ring(4), full(4)]:
            for near in near_rows(arrows_in(web), len(web)):
                check_agrees(self, is_chain, right_chain, web, near)

    def test_greater_webs(self):
        for web in great_webs():
            rows = chain(web)
            if rows:
                self.assertIs(is_chain(web, rows), True)
                for near in [rows[1:], rows[:-1], rows[:1], rows + rows[:1], rows + [[0, WIDE]], [[-HUGE, 1]] + rows]:
                    check_agrees(self, is_chain, right_chain, web, near)
                for k in range(len(rows)):
                    for change in [rows[k][::-1], [], rows[k][:1], rows[k] + [0]]:
                        check_agrees(self, is_chain, right_chain, web, rows[:k] + [change] + rows[k + 1:])
                    check_agrees(self, is_chain, right_chain, web, rows[:k] + rows[k + 1:])

    def test_lists_are_kept(self):
        for asked in [is_chain, is_arrows]:
            for rows in [[], FIVE, [[0], [], [WIDE, -1]]]:
                check_kept(self, asked, ring(5), rows)
