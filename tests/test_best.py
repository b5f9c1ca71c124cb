import random
import unittest
from itertools import combinations, permutations, product

from cotreehall.best import best_by_arrows, best_by_joining, best_by_order, best_by_sides
from cotreehall.forcing import arrows
from cotreehall.joins import joining
from cotreehall.rounds import taking
from cotreehall.sides import sides
from helper import (
    apart, arrows_in, bare, check_best, check_free, full, great_webs, is_tied, joined_by, made, members, right_arrows,
    right_sides, right_taking, ring, row, small_webs, some_order, some_ranked, some_rounds, some_rows_of_joining,
    some_sided, some_spans, some_turned)

NOTHING = (0, [], 0, [])


class ByOrderTest(unittest.TestCase):
    def test_by_hand(self):
        self.assertEqual(best_by_order([], []), NOTHING)
        self.assertEqual(best_by_order([0], [0]), (1, [1], 1, [1]))
        clique, colours, loose, covers = best_by_order(full(14), list(range(14)))
        self.assertEqual((clique, len(colours), covers), (2 ** 14 - 1, 14, [2 ** 14 - 1]))
        clique, colours, loose, covers = best_by_order(bare(14), list(range(14)))
        self.assertEqual((colours, loose, len(covers)), ([2 ** 14 - 1], 2 ** 14 - 1, 14))

    def test_all_orders_of_small_webs(self):
        for web in small_webs(4):
            for order in permutations(range(len(web))):
                if right_taking(web, list(order)):
                    check_best(self, web, best_by_order(web, list(order)))

    def test_several_orders_of_greater_webs(self):
        chance = random.Random(31)
        webs = [web for web in great_webs() + small_webs(5) if taking(web) is not None]
        webs += [some_rounds(chance, 14) for k in range(40)] + [some_spans(chance, 14) for k in range(20)]
        for web in webs:
            for order in [taking(web), some_order(web, chance), some_order(web, chance)]:
                check_best(self, web, best_by_order(web, order))

    def test_lists(self):
        for web in [[], [0], row(5), full(6), apart(full(3), row(4))]:
            check_free(self, best_by_order, web, taking(web))


class ByJoiningTest(unittest.TestCase):
    def test_by_hand(self):
        self.assertEqual(best_by_joining([], []), NOTHING)
        self.assertEqual(best_by_joining([0], []), (1, [1], 1, [1]))
        self.assertEqual(best_by_joining(bare(2), [[0, 0, 1]])[1:3], ([3], 3))
        self.assertEqual(best_by_joining(full(2), [[1, 1, 0]])[0], 3)

    def test_several_rows_of_one_web(self):
        chance = random.Random(32)
        for k in range(150):
            rows = some_rows_of_joining(chance, chance.randrange(2, 15))
            web = joined_by(len(rows) + 1, rows)
            turned = [[mark, y, x] for mark, x, y in rows]
            for told in [rows, turned, joining(web)]:
                check_best(self, web, best_by_joining(web, told))

    def test_webs_of_joins(self):
        for web in small_webs(5) + great_webs():
            rows = joining(web)
            if rows is not None:
                check_best(self, web, best_by_joining(web, rows))

    def test_lists(self):
        for web in [[], [0], row(3), ring(4), full(5)]:
            check_free(self, best_by_joining, web, joining(web))


class ByArrowsTest(unittest.TestCase):
    def test_by_hand(self):
        self.assertEqual(best_by_arrows([], []), NOTHING)
        self.assertEqual(best_by_arrows([0], []), (1, [1], 1, [1]))
        self.assertEqual(best_by_arrows(bare(3), [])[1:3], ([7], 7))

    def test_all_arrows_of_small_webs(self):
        for web in small_webs(4):
            ties = [arrow for arrow in arrows_in(web) if arrow[0] < arrow[1]]
            for turns in product([False, True], repeat=len(ties)):
                rows = [tie[::-1] if turn else tie for tie, turn in zip(ties, turns)]
                if right_arrows(web, rows):
                    check_best(self, web, best_by_arrows(web, rows))

    def test_arrows_of_webs_of_five_points_and_of_greater_ones(self):
        chance = random.Random(33)
        webs = small_webs(5) + great_webs() + [some_ranked(chance, 14) for k in range(20)]
        for web in webs:
            rows = arrows(web)
            if rows is not None:
                check_best(self, web, best_by_arrows(web, rows))
                check_best(self, web, best_by_arrows(web, [[b, a] for a, b in rows[::-1]]))

    def test_arrows_by_any_order_of_all_points(self):
        chance = random.Random(34)
        for many in [3, 6, 14]:
            order = chance.sample(range(many), many)
            rows = [list(pair) for pair in combinations(order, 2)]
            check_best(self, full(many), best_by_arrows(full(many), rows))

    def test_arrows_by_dividing(self):
        rows = [[a, b] for a in range(14) for b in range(a + 1, 14) if (b + 1) % (a + 1) == 0]
        web = made(14, rows)
        self.assertTrue(right_arrows(web, rows))
        check_best(self, web, best_by_arrows(web, rows))

    def test_arrows_by_the_first_of_two_orders(self):
        chance = random.Random(35)
        for k in range(40):
            web = some_turned(chance, 14)
            rows = [[a, b] for a, b in combinations(range(14), 2) if is_tied(web, a, b)]
            self.assertTrue(right_arrows(web, rows))
            check_best(self, web, best_by_arrows(web, rows))

    def test_lists(self):
        for web in [[], [0], row(4), full(5), ring(6)]:
            check_free(self, best_by_arrows, web, arrows(web))


class BySidesTest(unittest.TestCase):
    def test_by_hand(self):
        self.assertEqual(best_by_sides([], 0), NOTHING)
        for left in [0, 1]:
            self.assertEqual(best_by_sides([0], left), (1, [1], 1, [1]))
        for left in range(8):
            self.assertEqual(best_by_sides(bare(3), left)[1:3], ([7], 7))

    def test_all_sides_of_small_webs(self):
        for web in small_webs(5):
            for left in range(2 ** len(web)):
                if right_sides(web, left):
                    check_best(self, web, best_by_sides(web, left))

    def test_greater_webs_from_either_side(self):
        chance = random.Random(36)
        for web in great_webs() + [some_sided(chance, 14) for k in range(40)]:
            left = sides(web)
            if left is not None:
                whole = 2 ** len(web) - 1
                free = sum(2 ** p for p in members(left) if web[p] == 0)
                for some in [left, whole - left, left - free, whole - left + free]:
                    check_best(self, web, best_by_sides(web, some))

    def test_lists(self):
        for web in [[], [0], row(5), ring(6)]:
            check_free(self, best_by_sides, web, sides(web))
