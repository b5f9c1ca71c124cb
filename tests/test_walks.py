import unittest
from itertools import permutations

from cotreehall.walks import layers, pieces, reach, way
from helper import bare, check_kept, check_own, full, is_tied, is_whole_number, members, mixed, ring, row, small_webs


def steps_between(web, within):
    """For each two points of the set the fewest steps from one to the other, no entry where there are none."""
    inside = members(within)
    steps = {(a, a): 0 for a in inside}
    for count in range(1, len(inside)):
        for (a, b), ahead in list(steps.items()):
            if ahead == count - 1:
                for c in inside:
                    if is_tied(web, b, c):
                        steps.setdefault((a, c), count)
    return steps


def expected_layers(steps, start, inside):
    found = [[p for p in inside if steps.get((start, p)) == k] for k in range(len(inside))]
    return [sum(2 ** p for p in layer) for layer in found if layer]


def great_cases():
    whole = 2 ** 14 - 1
    webs = [row(14), ring(14), bare(14), full(14), mixed(14)]
    return [(web, within) for web in webs for within in [whole, whole - 2 ** 5, 0b10110111101101, 0b11001100110011]]


def small_cases():
    return [(web, within) for web in small_webs(4) + [ring(5), ring(6), row(6)] for within in range(2 ** len(web))]


class LayersTest(unittest.TestCase):
    def test_by_hand(self):
        self.assertEqual(layers(row(4), 0, 15), [1, 2, 4, 8])
        self.assertEqual(layers(row(4), 1, 15), [2, 5, 8])
        self.assertEqual(layers(ring(6), 0, 63), [1, 34, 20, 8])
        self.assertEqual(layers(ring(6), 0, 61), [1, 32, 16, 8, 4])
        self.assertEqual(layers(bare(4), 2, 15), [4])
        self.assertEqual(layers(full(4), 2, 15), [4, 11])
        self.assertEqual(layers(full(4), 2, 4), [4])
        self.assertEqual(layers([0], 0, 1), [1])

    def test_by_definition(self):
        for web, within in small_cases() + great_cases():
            steps, inside = steps_between(web, within), members(within)
            for start in inside:
                right = expected_layers(steps, start, inside)
                self.assertEqual(layers(web, start, within), right)
                self.assertEqual(reach(web, start, within), sum(right))

    def test_lists(self):
        for web in [bare(5), ring(5), full(5)]:
            check_kept(self, layers, web, 2, 31)
            check_own(self, layers, web, 2, 31)
            check_kept(self, reach, web, 2, 31)


class ReachTest(unittest.TestCase):
    def test_by_hand(self):
        self.assertEqual(reach(row(5), 0, 31), 31)
        self.assertEqual(reach(row(5), 0, 27), 3)
        self.assertEqual(reach(row(5), 4, 27), 24)
        self.assertEqual(reach(ring(5), 0, 27), 27)
        self.assertEqual(reach(bare(5), 3, 31), 8)
        self.assertEqual(reach(full(5), 3, 25), 25)
        self.assertTrue(is_whole_number(reach([0], 0, 1)))


class PiecesTest(unittest.TestCase):
    def test_by_hand(self):
        self.assertEqual(pieces(row(5), 31), [31])
        self.assertEqual(pieces(row(5), 27), [3, 24])
        self.assertEqual(pieces(ring(6), 0b101101), [0b100001, 0b1100])
        self.assertEqual(pieces(bare(4), 15), [1, 2, 4, 8])
        self.assertEqual(pieces(full(4), 15), [15])
        self.assertEqual(pieces([8, 4, 2, 1], 15), [9, 6])

    def test_the_empty_set(self):
        for web in [[], [0], ring(5), full(14)]:
            self.assertEqual(pieces(web, 0), [])

    def test_by_definition(self):
        for web, within in small_cases() + great_cases():
            steps, inside, right = steps_between(web, within), members(within), []
            for p in inside:
                piece = sum(2 ** q for q in inside if (p, q) in steps)
                if piece not in right:
                    right.append(piece)
            self.assertEqual(pieces(web, within), right)

    def test_lists(self):
        for within in [0, 31, 21]:
            check_kept(self, pieces, ring(5), within)
            check_own(self, pieces, ring(5), within)


class WayTest(unittest.TestCase):
    def check_way(self, web, start, goal, within, steps):
        told = way(web, start, goal, within)
        if (start, goal) not in steps:
            self.assertIsNone(told)
            return
        self.assertIs(type(told), list)
        self.assertEqual(len(told), steps[(start, goal)] + 1)
        self.assertEqual((told[0], told[-1]), (start, goal))
        for p in told:
            self.assertTrue(is_whole_number(p) and within >> p & 1)
        for a, b in zip(told, told[1:]):
            self.assertTrue(is_tied(web, a, b))

    def test_by_hand(self):
        self.assertEqual(way(row(4), 0, 3, 15), [0, 1, 2, 3])
        self.assertEqual(way(row(4), 3, 1, 15), [3, 2, 1])
        self.assertEqual(way(ring(6), 0, 2, 63), [0, 1, 2])
        self.assertEqual(way(full(4), 3, 0, 15), [3, 0])

    def test_the_goal_is_the_start(self):
        for web in [[0], bare(1), row(4), ring(6), full(14)]:
            for p in range(len(web)):
                self.assertEqual(way(web, p, p, 2 ** len(web) - 1), [p])
                self.assertEqual(way(web, p, p, 2 ** p), [p])

    def test_no_way(self):
        self.assertIsNone(way(bare(2), 0, 1, 3))
        self.assertIsNone(way(row(4), 0, 3, 13))
        self.assertIsNone(way(ring(6), 0, 3, 0b101101))

    def test_the_shortest_way_is_cut_off(self):
        self.assertEqual(way(ring(6), 0, 2, 0b111101), [0, 5, 4, 3, 2])
        self.assertEqual(way(ring(14), 13, 1, 2 ** 14 - 2), list(range(13, 0, -1)))

    def test_by_definition(self):
        for web, within in small_cases() + great_cases():
            steps, inside = steps_between(web, within), members(within)
            for start in inside:
                for goal in inside:
                    self.check_way(web, start, goal, within, steps)

    def test_the_points_may_be_numbered_in_any_order(self):
        for order in permutations(range(5)):
            web = [0] * 5
            for a, b in zip(order, order[1:]):
                web[a] |= 2 ** b
                web[b] |= 2 ** a
            self.assertEqual(way(web, order[0], order[4], 31), list(order))

    def test_lists(self):
        for start, goal in [(0, 0), (0, 2), (4, 1)]:
            check_kept(self, way, ring(5), start, goal, 31)
            check_own(self, way, ring(5), start, goal, 31)
        check_kept(self, way, bare(3), 0, 2, 7)
