import unittest
from itertools import combinations, permutations

from cotreehall.errors import NoTie, NoWeb
from cotreehall.webs import (
    all_tied, beside, joined, none_tied, other_web, part, tied, ties_of, web_of, whole_of)
from helper import (
    bare, check_kept, check_own, full, is_tied, is_whole_number, members, mixed, ring, row, small_webs)

HUGE = 10 ** 59
WIDE = 10 ** 60 - 1


def some_webs():
    return small_webs(4) + [row(14), ring(14), bare(14), full(14), mixed(14), ring(5), mixed(9)]


def expected_together(one, two, between):
    many = len(one) + len(two)
    web = []
    for a in range(many):
        mates = [b for b in range(many) if expected_tie(one, two, between, a, b)]
        web.append(sum(2 ** b for b in mates))
    return web


def expected_tie(one, two, between, a, b):
    cut = len(one)
    if a < cut and b < cut:
        return is_tied(one, a, b)
    if a >= cut and b >= cut:
        return is_tied(two, a - cut, b - cut)
    return between


class WebOfTest(unittest.TestCase):
    def test_webs_without_ties(self):
        for many in range(15):
            self.assertEqual(web_of(many, []), [0] * many)

    def test_ties_in_either_order(self):
        self.assertEqual(web_of(4, [(0, 1), (1, 3)]), [2, 9, 0, 2])
        self.assertEqual(web_of(4, [(3, 1), (1, 0)]), [2, 9, 0, 2])

    def test_ties_told_more_than_once(self):
        self.assertEqual(web_of(4, [(0, 1), (1, 0), (1, 3), (0, 1), (3, 1)]), [2, 9, 0, 2])
        self.assertEqual(web_of(2, [(0, 1)] * 400), [2, 1])

    def test_fourteen_points(self):
        self.assertEqual(web_of(14, [(0, 13)]), [2 ** 13] + [0] * 12 + [1])
        self.assertEqual(web_of(14, list(combinations(range(14), 2))), full(14))

    def test_every_small_web(self):
        for web in small_webs(4):
            pairs = combinations(range(len(web)), 2)
            ties = [(b, a) for a, b in pairs if is_tied(web, a, b)]
            self.assertEqual(web_of(len(web), ties), web)

    def test_mates_are_whole_numbers(self):
        for mates in web_of(3, [(0, 1)]):
            self.assertTrue(is_whole_number(mates))

    def test_numbers_of_points_that_are_refused(self):
        for many in [-1, 15, -2, 16, 100, HUGE, -HUGE, WIDE, -WIDE]:
            with self.assertRaises(NoWeb):
                web_of(many, [])
            with self.assertRaises(NoWeb):
                web_of(many, [(0, 1)])

    def test_ties_that_are_refused_at_any_place(self):
        good = [(0, 1), (2, 1), (0, 1)]
        bad = [(0, 3), (3, 0), (-1, 0), (0, -1), (0, 0), (2, 2), (3, 3), (-1, -1)]
        bad += [(0, HUGE), (HUGE, 0), (-HUGE, 0), (0, -WIDE), (WIDE, WIDE)]
        for tie in bad:
            for place in range(len(good) + 1):
                with self.assertRaises(NoTie):
                    web_of(3, good[:place] + [tie] + good[place:])

    def test_ties_that_are_refused_at_the_edges(self):
        for many, tie in [(0, (0, 1)), (0, (0, 0)), (1, (0, 1)), (1, (0, 0)), (14, (13, 14)), (14, (13, 13))]:
            with self.assertRaises(NoTie):
                web_of(many, [tie])

    def test_the_number_of_points_is_refused_ahead_of_the_ties(self):
        for many in [-1, 15, HUGE, -WIDE]:
            for tie in [(0, 0), (-1, 0), (0, 20), (WIDE, 1)]:
                with self.assertRaises(NoWeb):
                    web_of(many, [tie])

    def test_lists(self):
        for ties in [[], [(1, 0), (1, 3), (0, 1)]]:
            check_kept(self, web_of, 4, ties)
            check_own(self, web_of, 4, ties)
        check_own(self, web_of, 0, [])


class TiesTest(unittest.TestCase):
    def test_ties_of(self):
        self.assertEqual(ties_of([]), [])
        self.assertEqual(ties_of([0]), [])
        self.assertEqual(ties_of([2, 9, 0, 2]), [(0, 1), (1, 3)])
        for web in some_webs():
            pairs = combinations(range(len(web)), 2)
            self.assertEqual(ties_of(web), [(a, b) for a, b in pairs if is_tied(web, a, b)])

    def test_ties_are_tuples(self):
        for tie in ties_of(ring(5)):
            self.assertIs(type(tie), tuple)

    def test_ties_of_lists(self):
        for web in [[], bare(3), ring(14)]:
            check_kept(self, ties_of, web)
            check_own(self, ties_of, web)

    def test_tied(self):
        for web in some_webs():
            for a in range(len(web)):
                self.assertIs(tied(web, a, a), False)
                for b in range(len(web)):
                    self.assertIs(tied(web, a, b), is_tied(web, a, b))

    def test_tied_keeps_its_web(self):
        check_kept(self, tied, ring(5), 0, 4)

    def test_whole_of(self):
        for many in range(15):
            self.assertEqual(whole_of(bare(many)), 2 ** many - 1)
            self.assertEqual(whole_of(full(many)), 2 ** many - 1)
            self.assertTrue(is_whole_number(whole_of(bare(many))))
        check_kept(self, whole_of, ring(5))


class OtherWebTest(unittest.TestCase):
    def test_other_web(self):
        self.assertEqual(other_web([]), [])
        self.assertEqual(other_web([0]), [0])
        self.assertEqual(other_web(bare(14)), full(14))
        self.assertEqual(other_web(full(14)), bare(14))
        for web in some_webs():
            other = other_web(web)
            self.assertEqual(len(other), len(web))
            for a in range(len(web)):
                mates = [b for b in range(len(web)) if b != a and not is_tied(web, a, b)]
                self.assertEqual(members(other[a]), mates)

    def test_lists(self):
        for web in [[], [0], ring(5), mixed(14)]:
            check_kept(self, other_web, web)
            check_own(self, other_web, web)


class PartTest(unittest.TestCase):
    def check_part(self, web, points):
        told = part(web, points)
        self.assertEqual(len(told), len(points))
        for k in range(len(points)):
            mates = [j for j in range(len(points)) if is_tied(web, points[k], points[j])]
            self.assertEqual(members(told[k]), mates)

    def test_by_hand(self):
        self.assertEqual(part([2, 9, 0, 2], [3, 1]), [2, 1])
        self.assertEqual(part([2, 9, 0, 2], [1, 2, 0]), [4, 0, 1])
        self.assertEqual(part([2, 9, 0, 2], [2]), [0])
        self.assertEqual(part([2, 9, 0, 2], []), [])
        self.assertEqual(part([], []), [])

    def test_small_webs_by_all_lists_of_points(self):
        for web in small_webs(4):
            for size in range(len(web) + 1):
                for points in permutations(range(len(web)), size):
                    self.check_part(web, list(points))

    def test_great_webs(self):
        for web in [row(14), ring(14), mixed(14)]:
            self.assertEqual(part(web, list(range(14))), web)
            self.check_part(web, list(range(13, -1, -1)))
            self.check_part(web, [13, 0, 12, 1])
            self.check_part(web, [13])

    def test_lists(self):
        for points in [[], [4], [0, 4, 3], [4, 3, 2, 1, 0], [0, 1, 2, 3, 4]]:
            check_kept(self, part, ring(5), points)
            check_own(self, part, ring(5), points)


class TogetherTest(unittest.TestCase):
    def test_by_hand(self):
        self.assertEqual(beside([2, 1], [0]), [2, 1, 0])
        self.assertEqual(beside([0], [2, 1]), [0, 4, 2])
        self.assertEqual(joined([0], [2, 1]), [6, 5, 3])
        self.assertEqual(joined([0, 0], [0]), [4, 4, 3])

    def test_small_webs(self):
        webs = small_webs(3) + [ring(5)]
        for one in webs:
            for two in webs:
                self.assertEqual(beside(one, two), expected_together(one, two, False))
                self.assertEqual(joined(one, two), expected_together(one, two, True))

    def test_a_web_of_no_points(self):
        for web in [[], [0], ring(5), mixed(14)]:
            for put in [beside, joined]:
                self.assertEqual(put(web, []), web)
                self.assertEqual(put([], web), web)

    def test_fourteen_points_together(self):
        for size in range(15):
            one, two = mixed(size), row(14 - size)
            self.assertEqual(beside(one, two), expected_together(one, two, False))
            self.assertEqual(joined(one, two), expected_together(one, two, True))

    def test_fifteen_points_together_and_more_are_refused(self):
        for first, second in [(1, 14), (14, 1), (7, 8), (8, 7), (14, 14)]:
            for put in [beside, joined]:
                with self.assertRaises(NoWeb):
                    put(row(first), row(second))

    def test_lists(self):
        for one, two in [([], []), ([], ring(5)), (ring(5), []), (row(3), ring(5)), (mixed(7), mixed(7))]:
            for put in [beside, joined]:
                check_kept(self, put, one, two)
                check_own(self, put, one, two)


class SetsOfAWebTest(unittest.TestCase):
    def test_by_definition(self):
        for web in small_webs(4) + [ring(5), mixed(7)]:
            for some in range(2 ** len(web)):
                pairs = [is_tied(web, a, b) for a, b in combinations(members(some), 2)]
                self.assertIs(all_tied(web, some), all(pairs))
                self.assertIs(none_tied(web, some), not any(pairs))

    def test_sets_of_no_point_and_of_one(self):
        for web in [[], [0], bare(14), full(14), mixed(14)]:
            for some in [0] + [2 ** p for p in range(len(web))]:
                self.assertIs(all_tied(web, some), True)
                self.assertIs(none_tied(web, some), True)

    def test_one_tie_missing_or_just_one_there(self):
        for a, b in combinations(range(14), 2):
            nearly, hardly = full(14), bare(14)
            for p, q in [(a, b), (b, a)]:
                nearly[p] -= 2 ** q
                hardly[p] += 2 ** q
            self.check_one_pair(nearly, hardly, 2 ** 14 - 1, 2 ** a)

    def check_one_pair(self, nearly, hardly, whole, point):
        self.assertIs(all_tied(nearly, whole), False)
        self.assertIs(all_tied(nearly, whole - point), True)
        self.assertIs(none_tied(nearly, whole), False)
        self.assertIs(none_tied(hardly, whole), False)
        self.assertIs(none_tied(hardly, whole - point), True)
        self.assertIs(all_tied(hardly, whole), False)

    def test_webs_are_kept(self):
        for asked in [all_tied, none_tied]:
            check_kept(self, asked, ring(5), 7)
