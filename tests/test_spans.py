import random
import unittest
from itertools import product

from cotreehall.spans import is_no_spans, is_spans, no_spans, spans
from helper import (
    HUGE, WIDE, apart, arrows_in, bare, check_agrees, check_free, check_kept, check_one_is_none, check_rows, flipped,
    full, great_webs, is_whole_number, near_lists, near_rows, other, right_chain, right_no_spans, right_ring,
    right_spans, ring, row, small_webs, some_spans)

# Three lines of two points that begin at one point: no ring, yet no spans.
THREE_ARMS = [0b101010, 0b101, 0b10, 0b10001, 0b1000, 0b1000001, 0b100000]


class SpansTest(unittest.TestCase):
    def check_web(self, web):
        rows, against = spans(web), no_spans(web)
        check_one_is_none(self, rows, against, web)
        if rows is None:
            self.check_against(web, against)
        else:
            check_rows(self, rows)
            self.assertTrue(right_spans(web, rows), (web, rows))
            self.assertTrue(all(0 <= number <= 13 for told in rows for number in told), rows)

    def check_against(self, web, against):
        self.assertIs(type(against), tuple)
        mark, rows = against
        self.assertTrue(is_whole_number(mark) and mark in (0, 1))
        check_rows(self, rows)
        if mark == 0:
            self.assertEqual([len(told) for told in rows], [4])
            self.assertTrue(right_ring(web, rows[0]), (web, against))
        else:
            self.assertTrue(right_chain(other(web), rows), (web, against))
            self.assertLessEqual(len(rows), len(arrows_in(other(web))))

    def test_by_hand(self):
        self.assertEqual(spans([]), [])
        self.assertIsNone(no_spans([]))
        self.assertIsNone(no_spans([0]))
        self.assertIsNone(no_spans(row(14)))
        self.assertIsNone(spans(ring(4)))
        self.assertEqual(no_spans(ring(4))[0], 0)
        self.assertIsNone(spans(ring(5)))
        self.assertEqual(no_spans(ring(5))[0], 1)
        self.assertIsNone(spans(THREE_ARMS))
        self.assertEqual(no_spans(THREE_ARMS)[0], 1)

    def test_all_webs_of_up_to_five_points(self):
        for web in small_webs(5):
            self.check_web(web)

    def test_greater_webs(self):
        chance = random.Random(22)
        for web in great_webs() + [some_spans(chance, 14) for k in range(40)]:
            self.check_web(web)

    def test_fourteen_spans_apart_and_together(self):
        for web in [bare(14), full(14), row(14), apart(full(7), bare(7)), other(apart(full(7), bare(7)))]:
            self.assertTrue(right_spans(web, spans(web)))
            self.check_web(web)

    def test_lists(self):
        for web in [[], [0], row(5), full(14), bare(14), ring(4), ring(5), THREE_ARMS]:
            check_free(self, spans, web)
            check_free(self, no_spans, web)


class IsSpansTest(unittest.TestCase):
    def test_all_spans_of_two_points(self):
        for web in small_webs(2):
            for numbers in product(range(-1, 3), repeat=4):
                check_agrees(self, is_spans, right_spans, web, [list(numbers[:2]), list(numbers[2:])])

    def test_webs_of_three_points(self):
        pairs = [[0, 0], [0, 1], [1, 1], [1, 2], [2, 2], [2, 1], [0, 2]]
        for web in [web for web in small_webs(3) if len(web) == 3]:
            for rows in product(pairs, repeat=3):
                check_agrees(self, is_spans, right_spans, web, [list(told) for told in rows])

    def test_spans_that_touch_in_one_number(self):
        self.assertIs(is_spans(full(2), [[0, 5], [5, 9]]), True)
        self.assertIs(is_spans(bare(2), [[0, 5], [5, 9]]), False)
        self.assertIs(is_spans(bare(2), [[0, 5], [6, 9]]), True)
        self.assertIs(is_spans(full(2), [[6, 9], [0, 5]]), False)
        self.assertIs(is_spans(full(2), [[5, 9], [0, 5]]), True)
        self.assertIs(is_spans([0], [[3, 3]]), True)

    def test_any_numbers(self):
        self.assertIs(is_spans(row(3), [[-WIDE, -HUGE], [-HUGE, WIDE], [HUGE, WIDE]]), True)
        self.assertIs(is_spans(row(3), [[-WIDE, -HUGE], [-HUGE + 1, WIDE], [HUGE, WIDE]]), False)
        self.assertIs(is_spans(bare(2), [[-WIDE, -WIDE], [WIDE, WIDE]]), True)
        self.assertIs(is_spans(bare(1), [[WIDE, -WIDE]]), False)

    def test_l_above_r(self):
        self.assertIs(is_spans([0], [[0, 0]]), True)
        self.assertIs(is_spans([0], [[1, 0]]), False)
        self.assertIs(is_spans(full(2), [[1, 0], [0, 1]]), False)
        self.assertIs(is_spans(bare(2), [[0, 0], [3, 2]]), False)

    def test_rows_too_few_too_many_and_of_other_lengths(self):
        self.assertIs(is_spans([], []), True)
        for rows in [[[]], [[0, 0]], [[], []]]:
            self.assertIs(is_spans([], rows), False)
        for rows in [[], [[]], [[0]], [[0, 0, 0]], [[0, 0], [1, 1]]]:
            self.assertIs(is_spans([0], rows), False)

    def test_near_rows(self):
        for web in small_webs(3) + [row(4), ring(4)] + great_webs()[::4]:
            rows = spans(web) or [[p, p + 1] for p in range(len(web))]
            for near in near_rows(rows, len(web)):
                check_agrees(self, is_spans, right_spans, web, near)


class IsNoSpansTest(unittest.TestCase):
    def test_mark_nought_with_rings(self):
        for many in range(3, 8):
            self.assertIs(is_no_spans(ring(many), 0, [list(range(many))]), many == 4)
            self.assertIs(is_no_spans(ring(many), 1, [list(range(many))]), False)
        four = [0, 1, 2, 3]
        self.assertIs(is_no_spans(ring(4), 0, [four, four]), False)
        self.assertIs(is_no_spans(ring(4), 0, []), False)
        self.assertIs(is_no_spans(ring(4), 0, [[]]), False)
        self.assertIs(is_no_spans(flipped(ring(4), 0, 2), 0, [four]), False)
        self.assertIs(is_no_spans(ring(4), 0, [[0, 2, 1, 3]]), False)

    def test_mark_one_with_chains(self):
        rows = no_spans(ring(6))[1]
        self.assertIs(is_no_spans(ring(6), 1, rows), True)
        self.assertIs(is_no_spans(ring(6), 0, rows), False)
        self.assertIs(is_no_spans(other(ring(6)), 1, rows), False)
        self.assertIs(is_no_spans(other(ring(6)), 0, rows), False)
        for mark in [2, -1, HUGE, WIDE, -HUGE, -WIDE]:
            self.assertIs(is_no_spans(ring(6), mark, rows), False)
            self.assertIs(is_no_spans(ring(4), mark, [[0, 1, 2, 3]]), False)

    def test_near_rows(self):
        for web in [ring(4), ring(5), ring(6), THREE_ARMS, apart(bare(3), ring(4)), row(3)]:
            rows = (no_spans(web) or (0, [[0, 1, 2, 3]]))[1]
            for near in near_rows(rows, len(web)):
                for mark in [0, 1, 2]:
                    check_agrees(self, is_no_spans, right_no_spans, web, mark, near)
        for near in near_lists([0, 1, 2, 3], 4):
            check_agrees(self, is_no_spans, right_no_spans, ring(4), 0, [near])

    def test_lists_are_kept(self):
        for mark in [0, 1, -1]:
            check_kept(self, is_no_spans, ring(4), mark, [[0, 1, 2, 3]])
