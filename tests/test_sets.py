import unittest

from cotreehall.errors import NoPoint
from cotreehall.sets import alone, first_of, has, lies_in, points_of, set_of, size_of, without
from helper import check_kept, check_own, is_whole_number

EVERY = 2 ** 100 - 1
SOME_LISTS = [[], [0], [99], [0, 3], [0, 99], [5, 17, 64], [0, 1, 31, 32, 63, 64, 98, 99], list(range(100))]


class HasTest(unittest.TestCase):
    def test_point_by_point(self):
        for p in range(100):
            self.assertIs(has(9, p), p in (0, 3))
            self.assertIs(has(0, p), False)
            self.assertIs(has(EVERY, p), True)
            self.assertIs(has(2 ** p, p), True)
            self.assertIs(has(EVERY - 2 ** p, p), False)

    def test_numbers_beyond_the_points(self):
        self.assertIs(has(EVERY, 100), False)
        self.assertIs(has(EVERY, -1), False)
        self.assertIs(has(EVERY, 10 ** 59), False)


class MakingTest(unittest.TestCase):
    def test_alone(self):
        self.assertEqual(alone(0), 1)
        self.assertEqual(alone(3), 8)
        for p in range(100):
            self.assertEqual(alone(p), 2 ** p)

    def test_set_of(self):
        self.assertEqual(set_of([]), 0)
        self.assertEqual(set_of([0, 3]), 9)
        self.assertEqual(set_of([3, 0]), 9)
        self.assertEqual(set_of([0, 99]), 1 + 2 ** 99)
        self.assertEqual(set_of(list(range(100))), EVERY)

    def test_set_of_points_told_more_than_once(self):
        self.assertEqual(set_of([3, 0, 3, 3, 0]), 9)
        self.assertEqual(set_of([99, 99]), 2 ** 99)
        self.assertEqual(set_of([0] * 400), 1)

    def test_sets_are_whole_numbers(self):
        for some in [alone(0), set_of([]), set_of([0]), without(1, 1), without(1, 0)]:
            self.assertTrue(is_whole_number(some))

    def test_set_of_keeps_its_list(self):
        check_kept(self, set_of, [7, 3, 3, 99, 0])


class AskingTest(unittest.TestCase):
    def test_points_of(self):
        self.assertEqual(points_of(0), [])
        self.assertEqual(points_of(9), [0, 3])
        for points in SOME_LISTS:
            self.assertEqual(points_of(sum(2 ** p for p in points)), points)

    def test_points_of_gives_a_list_of_the_askers_own(self):
        for some in [0, 9, EVERY]:
            check_own(self, points_of, some)

    def test_size_of(self):
        for points in SOME_LISTS:
            size = size_of(sum(2 ** p for p in points))
            self.assertEqual(size, len(points))
            self.assertTrue(is_whole_number(size))

    def test_first_of(self):
        for points in SOME_LISTS[1:]:
            first = first_of(sum(2 ** p for p in points))
            self.assertEqual(first, points[0])
            self.assertTrue(is_whole_number(first))

    def test_first_of_the_empty_set_is_refused(self):
        with self.assertRaises(NoPoint):
            first_of(0)


class TwoSetsTest(unittest.TestCase):
    def test_all_small_sets(self):
        for one in range(32):
            for two in range(32):
                first = [p for p in range(5) if one >> p & 1]
                second = [p for p in range(5) if two >> p & 1]
                rest = [p for p in first if p not in second]
                self.assertEqual(without(one, two), sum(2 ** p for p in rest))
                self.assertIs(lies_in(one, two), rest == [])

    def test_without_at_the_edges(self):
        self.assertEqual(without(EVERY, 0), EVERY)
        self.assertEqual(without(EVERY, EVERY), 0)
        self.assertEqual(without(EVERY, 2 ** 99), 2 ** 99 - 1)
        self.assertEqual(without(1, EVERY), 0)
        self.assertEqual(without(0, EVERY), 0)
        self.assertEqual(without(2 ** 99, 1), 2 ** 99)

    def test_lies_in_at_the_edges(self):
        for some in [0, 1, 9, 2 ** 99, EVERY]:
            self.assertIs(lies_in(some, some), True)
            self.assertIs(lies_in(0, some), True)
            self.assertIs(lies_in(some, EVERY), True)
        self.assertIs(lies_in(1, 0), False)
        self.assertIs(lies_in(EVERY, EVERY - 1), False)
        self.assertIs(lies_in(EVERY, 2 ** 99 - 1), False)
        self.assertIs(lies_in(9 + 2 ** 99, 9), False)
