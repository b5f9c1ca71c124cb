import random
import unittest
from itertools import combinations, permutations

from cotreehall.rounds import taking
from cotreehall.trees import stretches
from helper import (
    apart, are_all_tied, bare, check_free, full, great_webs, is_tied, is_whole_number, members, right_taking, row,
    small_webs, some_order, some_rounds, some_spans)


def right_knots(web):
    """The sets that are all tied, and no longer so with any other point put in."""
    found = []
    for some in range(1, 2 ** len(web)):
        if are_all_tied(web, members(some)):
            more = [p for p in range(len(web)) if not some >> p & 1 and some & ~web[p] == 0]
            if not more:
                found.append(some)
    return found


def is_knot(web, some):
    points = members(some)
    more = [p for p in range(len(web)) if p not in points and all(is_tied(web, p, q) for q in points)]
    return some > 0 and some < 2 ** len(web) and are_all_tied(web, points) and not more


def hang_together(numbers, links):
    if not numbers:
        return True
    seen, waiting = set(), [numbers[0]]
    while waiting:
        k = waiting.pop()
        seen.add(k)
        waiting += [j for i, j in links if i == k and j not in seen] + [i for i, j in links if j == k and i not in seen]
    return seen == set(numbers)


def all_orders(web):
    return [list(order) for order in permutations(range(len(web))) if right_taking(web, list(order))]


class StretchesTest(unittest.TestCase):
    def check_tree(self, web, told):
        self.assertIs(type(told), tuple)
        knots, links = told
        self.assertIs(type(knots), list)
        self.assertIs(type(links), list)
        self.assertTrue(all(is_whole_number(some) and is_knot(web, some) for some in knots), (web, told))
        self.assertEqual(len(set(knots)), len(knots))
        self.assertEqual(len(links), max(len(knots) - 1, 0))
        for link in links:
            self.assertIs(type(link), tuple)
            self.assertTrue(all(is_whole_number(k) for k in link))
            self.assertTrue(0 <= link[0] < link[1] < len(knots), told)
        self.assertTrue(hang_together(list(range(len(knots))), links))
        for p in range(len(web)):
            having = [k for k, some in enumerate(knots) if some >> p & 1]
            self.assertTrue(hang_together(having, [(i, j) for i, j in links if i in having and j in having]), told)

    def check_meeting(self, web, knots):
        for a, b in combinations(range(len(web)), 2):
            meet = any(some >> a & 1 and some >> b & 1 for some in knots)
            self.assertEqual(meet, is_tied(web, a, b))

    def test_by_hand(self):
        self.assertEqual(stretches([], []), ([], []))
        self.assertEqual(stretches([0], [0]), ([1], []))
        self.assertEqual(stretches(full(14), list(range(14))), ([2 ** 14 - 1], []))
        self.assertEqual(sorted(stretches(row(3), [0, 1, 2])[0]), [3, 6])
        self.assertEqual(stretches(row(3), [0, 1, 2])[1], [(0, 1)])
        self.assertEqual(sorted(stretches(bare(3), [2, 0, 1])[0]), [1, 2, 4])

    def test_all_small_webs_by_all_their_orders(self):
        for web in small_webs(4):
            right = right_knots(web)
            for order in all_orders(web):
                told = stretches(web, order)
                self.assertEqual(sorted(told[0]), right)
                self.check_tree(web, told)

    def test_webs_of_five_points(self):
        for web in small_webs(5):
            order = taking(web)
            if order is not None:
                told = stretches(web, order)
                self.assertEqual(sorted(told[0]), right_knots(web))
                self.check_tree(web, told)

    def test_greater_webs_by_several_orders(self):
        chance = random.Random(15)
        webs = great_webs() + [some_rounds(chance, 14) for k in range(30)] + [some_spans(chance, 14) for k in range(30)]
        webs += [apart(some_rounds(chance, 7), some_rounds(chance, 7)), apart(full(5), apart(bare(4), row(5)))]
        for web in webs:
            if taking(web) is not None:
                for order in [taking(web), some_order(web, chance), some_order(web, chance)]:
                    told = stretches(web, order)
                    self.check_tree(web, told)
                    self.check_meeting(web, told[0])

    def test_all_knots_of_fourteen_points(self):
        chance = random.Random(16)
        for web in [some_rounds(chance, 14), some_spans(chance, 14), row(14), bare(14)]:
            self.assertEqual(sorted(stretches(web, some_order(web, chance))[0]), right_knots(web))

    def test_lists(self):
        for web in [[], [0], row(5), bare(4), full(6), apart(full(3), row(4))]:
            check_free(self, stretches, web, taking(web))
