import random
import unittest
from itertools import product

from cotreehall.matching import matched, reached
from helper import check_free, check_numbers, is_whole_number, members


def all_matchings(rows):
    found = []
    for told in product(*[[-1] + members(some) for some in rows]):
        used = [p for p in told if p != -1]
        if len(set(used)) == len(used):
            found.append(list(told))
    most = max(count(told) for told in found)
    return [told for told in found if count(told) == most]


def count(partners):
    return len([p for p in partners if p != -1])


def is_bounded(rows, size):
    """Whether no more than so many can be matched: some numbers have too few points between them."""
    for numbers in range(2 ** len(rows)):
        points = 0
        for k in members(numbers):
            points |= rows[k]
        if len(rows) - len(members(numbers)) + len(members(points)) == size:
            return True
    return False


def right_reached(rows, partners):
    """Each thing to which one comes, by turns until nothing new is come to."""
    numbers, points = {k for k, p in enumerate(partners) if p == -1}, set()
    before = None
    while before != (len(numbers), len(points)):
        before = (len(numbers), len(points))
        points |= {p for k in numbers for p in members(rows[k])}
        numbers |= {k for k, p in enumerate(partners) if p in points}
    return (sum(2 ** k for k in numbers), sum(2 ** p for p in points))


def some_rows(chance, many, share):
    return [sum(2 ** p for p in range(many) if chance.randrange(10) < share) for k in range(many)]


class MatchedTest(unittest.TestCase):
    def check_matched(self, rows):
        partners = matched(rows)
        check_numbers(self, partners)
        self.assertEqual(len(partners), len(rows))
        used = [p for p in partners if p != -1]
        self.assertEqual(len(set(used)), len(used), (rows, partners))
        for k, p in enumerate(partners):
            self.assertTrue(p == -1 or p in members(rows[k]), (rows, partners))
        return partners

    def test_by_hand(self):
        self.assertEqual(matched([]), [])
        self.assertEqual(matched([0]), [-1])
        self.assertEqual(matched([1]), [0])
        self.assertEqual(matched([2 ** 13]), [13])
        self.assertEqual(matched([0] * 14), [-1] * 14)
        self.assertEqual(sorted(matched([2 ** 14 - 1] * 14)), list(range(14)))
        self.assertEqual(sorted(matched([1, 1])), [-1, 0])

    def test_the_first_choice_is_given_up(self):
        self.assertEqual(matched([0b11, 0b01]), [1, 0])
        self.assertEqual(matched([0b10, 0b11]), [1, 0])
        self.assertEqual(matched([0b11, 0b110, 0b01]), [1, 2, 0])
        steps = [3 << k for k in range(13)] + [1]
        self.assertEqual(matched(steps), list(range(1, 14)) + [0])

    def test_all_small_lists(self):
        for size in range(4):
            for rows in product(range(8), repeat=size):
                partners = self.check_matched(list(rows))
                self.assertIn(partners, all_matchings(list(rows)))

    def test_fourteen_sets(self):
        chance = random.Random(24)
        for share in [1, 1, 1, 2, 2, 3, 5, 8]:
            rows = some_rows(chance, 14, share)
            self.assertTrue(is_bounded(rows, count(self.check_matched(rows))), rows)

    def test_sets_of_seven_points(self):
        chance = random.Random(25)
        for k in range(150):
            rows = some_rows(chance, 7, chance.randrange(1, 5))
            self.assertTrue(is_bounded(rows, count(self.check_matched(rows))), rows)

    def test_lists(self):
        for rows in [[], [0], [3, 1, 6], [2 ** 14 - 1] * 14]:
            check_free(self, matched, rows)


class ReachedTest(unittest.TestCase):
    def check_reached(self, rows, partners):
        told = reached(rows, partners)
        self.assertIs(type(told), tuple)
        self.assertTrue(all(is_whole_number(some) for some in told))
        self.assertEqual(told, right_reached(rows, partners), (rows, partners))

    def test_by_hand(self):
        self.assertEqual(reached([], []), (0, 0))
        self.assertEqual(reached([0], [-1]), (1, 0))
        self.assertEqual(reached([1], [0]), (0, 0))
        self.assertEqual(reached([1, 1], [0, -1]), (3, 1))
        self.assertEqual(reached([1, 1], [-1, 0]), (3, 1))
        self.assertEqual(reached([1, 3, 2, 4], [-1, 0, 1, 2]), (7, 3))
        self.assertEqual(reached([1, 3, 6, 6, 8], [0, 1, 2, -1, 3]), (15, 7))

    def test_all_that_may_be_told_of_small_lists(self):
        for size in range(4):
            for rows in product([0, 1, 2, 3, 5, 6, 7], repeat=size):
                for partners in all_matchings(list(rows)):
                    self.check_reached(list(rows), partners)

    def test_fourteen_sets(self):
        chance = random.Random(26)
        for share in [1, 1, 1, 1, 2, 2, 3, 8]:
            rows = some_rows(chance, 14, share)
            self.check_reached(rows, matched(rows))
            turned = matched(rows[::-1])[::-1]
            self.check_reached(rows, turned)
        falling = [3 << k for k in range(13)] + [1]
        self.check_reached(falling[:13] + [2 ** 13], list(range(13)) + [13])
        self.check_reached([1] + falling[:12] + [2 ** 12], [-1] + list(range(13)))

    def test_lists(self):
        for rows, partners in [([], []), ([1, 3, 2, 4], [-1, 0, 1, 2]), ([0] * 14, [-1] * 14)]:
            check_free(self, reached, rows, partners)
