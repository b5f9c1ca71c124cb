import random
import unittest
from itertools import combinations, product

from cotreehall.best import best_by_arrows, best_by_joining, best_by_order, best_by_sides
from cotreehall.errors import NoKind
from cotreehall.kinds import Joins, Kind, Ranked, Rounds, Sided, Spans, Split, Steps, Turned, kind_of, kinds
from helper import (
    HUGE, RIGHT_BARS, RIGHT_MAKES, WIDE, apart, arrows_in, bare, check_best, check_free, check_rows, full, great_webs,
    is_tied, made, members, near_rows, other, ring, right_chain, row, small_webs, some_joins, some_order, some_ranked,
    some_rounds, some_sided, some_spans, some_split, some_steps, some_turned)

CLASSES = [Sided, Rounds, Split, Steps, Joins, Ranked, Turned, Spans]
WORDS = ["sided", "rounds", "split", "steps", "joins", "ranked", "turned", "spans"]
MAKERS = [some_sided, some_rounds, some_split, some_steps, some_joins, some_ranked, some_turned, some_spans]
OF_NO_POINTS = {"sided": [[], []], "rounds": [[]], "split": [[], []], "steps": [], "joins": [], "ranked": [],
                "turned": [[], []], "spans": []}
AGAINST = {"sided": [[0, 1, 2]], "rounds": [[0, 1, 2, 3]], "split": [[0, 1, 2, 3]], "steps": [[0, 1, 2, 3]],
           "joins": [[0, 1, 2, 3]], "ranked": [[0, 1], [1, 0]], "turned": [[0], [0, 1], [1, 0]],
           "spans": [[0], [0, 1, 2, 3]]}


def by_steps(rows):
    ties = [(rows[j][0], rows[k][0]) for j, k in combinations(range(len(rows)), 2) if rows[k][1] == 1]
    return made(len(rows), ties)


def guessed_rows(word, web):
    """Rows of the kind's form that may or may not make the web."""
    points = list(range(len(web)))
    return {"sided": [points[0::2], points[1::2]], "rounds": [points], "split": [points[:2], points[2:]],
            "steps": [[p, p % 2] for p in points], "joins": [[k % 2, 2 * k, 2 * k + 1] for k in points[1:]],
            "ranked": [arrow for arrow in arrows_in(web) if arrow[0] < arrow[1]], "turned": [points, points[::-1]],
            "spans": [[p, p + 1] for p in points]}[word]


class ListTest(unittest.TestCase):
    def test_the_eight_in_their_order_with_their_words(self):
        self.assertEqual([type(kind) for kind in kinds()], CLASSES)
        self.assertEqual([kind.word() for kind in kinds()], WORDS)
        self.assertIs(type(kinds()), list)

    def test_a_new_list_each_time(self):
        told = kinds()
        told.reverse()
        told.pop()
        self.assertEqual([kind.word() for kind in kinds()], WORDS)

    def test_which_class_stands_straight_under_which(self):
        for under in [Sided, Rounds, Joins, Ranked]:
            self.assertEqual(under.__bases__, (Kind,))
        for under in [Split, Steps, Spans]:
            self.assertEqual(under.__bases__, (Rounds,))
        self.assertEqual(Turned.__bases__, (Ranked,))
        for one, two in product(CLASSES, repeat=2):
            right = one is two or (one in (Split, Steps, Spans) and two is Rounds) or (one, two) == (Turned, Ranked)
            self.assertEqual(issubclass(one, two), right)

    def test_all_are_made_without_arguments_and_have_the_methods(self):
        for kind in [Kind] + CLASSES:
            for method in ["word", "made", "barred", "makes", "bars", "best", "paper", "holds"]:
                self.assertTrue(callable(getattr(kind(), method)))

    def test_kind_of(self):
        for word, kind in zip(WORDS, CLASSES):
            self.assertIs(type(kind_of(word)), kind)
            self.assertEqual(kind_of(word).word(), word)
        for word in ["", "side", "sideds", "Sided", "SIDED", " sided", "sided ", "kind", "rings", "sided rounds", "7"]:
            with self.assertRaises(NoKind):
                kind_of(word)


class PaperTest(unittest.TestCase):
    def check_web(self, kind, web):
        word, rows, against = kind.word(), kind.made(web), kind.barred(web)
        self.assertNotEqual(rows is None, against is None, (word, web))
        if rows is not None:
            check_rows(self, rows)
            self.assertTrue(RIGHT_MAKES[word](web, rows), (word, web, rows))
            self.assertIs(kind.makes(web, rows), True)
            check_best(self, web, kind.best(web, rows))
        else:
            check_rows(self, against)
            self.assertTrue(RIGHT_BARS[word](web, against), (word, web, against))
            self.assertIs(kind.bars(web, against), True)
        self.check_paper(kind, web, rows, against)

    def check_paper(self, kind, web, rows, against):
        paper = kind.paper(web)
        self.assertIs(type(paper), tuple)
        self.assertEqual(len(paper), 2)
        self.assertIs(paper[0], rows is not None)
        check_rows(self, paper[1])
        asked = RIGHT_MAKES if paper[0] else RIGHT_BARS
        self.assertTrue(asked[kind.word()](web, paper[1]))
        self.assertIs(kind.holds(web, paper), True)
        right = RIGHT_BARS if paper[0] else RIGHT_MAKES
        self.assertIs(kind.holds(web, (not paper[0], paper[1])), right[kind.word()](web, paper[1]))

    def test_all_webs_of_up_to_four_points(self):
        eight = kinds()
        for web in small_webs(4):
            for kind in eight:
                self.check_web(kind, web)

    def test_greater_webs(self):
        eight = kinds()
        for web in great_webs():
            for kind in eight:
                self.check_web(kind, web)

    def test_webs_made_in_the_way_of_the_kind_are_of_it(self):
        chance = random.Random(41)
        for word, maker in zip(WORDS, MAKERS):
            for many in [1, 2, 5, 9, 14, 14]:
                self.assertIsNotNone(kind_of(word).made(maker(chance, many)), word)

    def test_spans_from_0_to_13_and_no_longer_chains_than_the_web_has_arrows(self):
        for web in great_webs():
            numbers = [number for told in kind_of("spans").made(web) or [] for number in told]
            self.assertTrue(all(0 <= number <= 13 for number in numbers))
            chain = kind_of("ranked").barred(web) or []
            self.assertLessEqual(len(chain), len(arrows_in(web)))
            for word in ["turned", "spans"]:
                told = kind_of(word).barred(web) or [[0]]
                asked = web if told[0] == [0] else other(web)
                if right_chain(asked, told[1:]):
                    self.assertLessEqual(len(told) - 1, len(arrows_in(asked)))

    def test_one_object_asked_of_several_webs(self):
        for kind in kinds():
            right = [(kind_of(kind.word()).paper(web), web) for web in [ring(5), full(3), ring(4), [], row(4), ring(5)]]
            for paper, web in right + right[::-1]:
                self.assertEqual(kind.paper(web), paper)

    def test_lists(self):
        for kind in kinds():
            for web in [[], [0], row(4), ring(4), ring(5), full(6), bare(14)]:
                for asked in [kind.made, kind.barred, kind.paper]:
                    check_free(self, asked, web)
                rows = kind.made(web)
                if rows is not None:
                    check_free(self, kind.best, web, rows)


class LookingTest(unittest.TestCase):
    def check_rows_of(self, kind, web, rows):
        before = repr((web, rows))
        makes, bars = RIGHT_MAKES[kind.word()](web, rows), RIGHT_BARS[kind.word()](web, rows)
        self.assertIs(kind.makes(web, rows), makes, (kind.word(), web, rows))
        self.assertIs(kind.bars(web, rows), bars, (kind.word(), web, rows))
        self.assertIs(kind.holds(web, (True, rows)), makes)
        self.assertIs(kind.holds(web, (False, rows)), bars)
        self.assertEqual(repr((web, rows)), before)

    def test_rows_spoilt_by_little(self):
        webs = small_webs(2) + [row(3), full(3), row(4), ring(4), apart(row(2), row(2)), ring(5), ring(6),
                                other(ring(6)), full(5), bare(5)]
        for kind in kinds():
            for web in webs:
                word = kind.word()
                for rows in [kind.made(web) or guessed_rows(word, web), kind.barred(web) or AGAINST[word]]:
                    for near in near_rows(rows, len(web)):
                        self.check_rows_of(kind, web, near)

    def test_rows_of_greater_webs(self):
        for kind in kinds():
            for web in great_webs()[::5]:
                rows = kind.paper(web)[1]
                for near in near_rows(rows, len(web))[::7]:
                    self.check_rows_of(kind, web, near)

    def test_any_lists_of_lists(self):
        several = [[], [[]], [[], []], [[], [], []], [[0]], [[1]], [[2]], [[-1]], [[0], []], [[1], []], [[WIDE]],
                   [[HUGE, -WIDE]], [[0, 0]], [[0, 1]], [[1, 0]], [[0], [0]], [[0], [1]], [[1], [0]], [[0, 0, 0]],
                   [[0, 1, 2]], [[0], [0, 1, 2]], [[-HUGE], [WIDE, 0]], [[0, 1], [1, 0]], [[0], [0, 1], [1, 0]],
                   [[1], [0, 1], [1, 0]], [[0]] * 400, [[0, 1]] * 400, [list(range(400))]]
        for kind in kinds():
            for web in small_webs(3) + [full(14)]:
                for rows in several:
                    self.check_rows_of(kind, web, rows)

    def test_marks_of_turned_and_spans(self):
        chain = kind_of("ranked").barred(other(ring(6)))
        for word in ["turned", "spans"]:
            kind = kind_of(word)
            self.assertIs(kind.bars(ring(6), [[1]] + chain), True)
            for mark in [[0], [2], [-1], [], [1, 1], [WIDE], [-HUGE]]:
                self.assertIs(kind.bars(ring(6), [mark] + chain), False)
            self.assertIs(kind.bars(ring(6), chain), False)
        self.assertIs(kind_of("turned").bars(other(ring(6)), [[0]] + chain), True)
        self.assertIs(kind_of("spans").bars(other(ring(6)), [[0]] + chain), False)
        self.assertIs(kind_of("spans").bars(ring(4), [[0], [0, 1, 2, 3]]), True)
        self.assertIs(kind_of("spans").bars(ring(4), [[0, 1, 2, 3]]), False)

    def test_sides_and_halves_in_any_order_of_their_points(self):
        for rows in [[[0, 2], [1, 3]], [[2, 0], [3, 1]], [[1, 3], [2, 0]]]:
            self.assertIs(kind_of("sided").makes(ring(4), rows), True)
        for rows in [[[0, 2], [1]], [[0, 2], [1, 3, 3]], [[0, 2], [1, 2, 3]], [[0, 2], [1, 3], []], [[0, 1], [2, 3]],
                     [[0, 2, 1, 3]], [[0, 2], [1, 3, 4]], [[0, 2], [1, 3, -1]], [[0, WIDE], [1, 3]]]:
            self.assertIs(kind_of("sided").makes(ring(4), rows), False)
        self.assertIs(kind_of("split").makes(row(4), [[2, 1], [3, 0]]), True)
        self.assertIs(kind_of("split").makes(row(4), [[0, 3], [1, 2]]), False)


class BestTest(unittest.TestCase):
    def check_told(self, word, web, rows):
        self.assertTrue(RIGHT_MAKES[word](web, rows), (word, web, rows))
        kind = kind_of(word)
        self.assertIs(kind.makes(web, rows), True)
        check_best(self, web, kind.best(web, rows))

    def several(self, word):
        chance = random.Random(42)
        maker = MAKERS[WORDS.index(word)]
        return [(chance, web) for web in [maker(chance, many) for many in [1, 2, 3, 5, 8, 12, 14, 14, 14, 14, 14, 14]]]

    def test_the_web_of_no_points(self):
        for kind in kinds():
            self.assertEqual(kind.made([]), OF_NO_POINTS[kind.word()])
            self.assertIsNone(kind.barred([]))
            self.assertEqual(kind.paper([]), (True, OF_NO_POINTS[kind.word()]))
            self.assertIs(kind.makes([], OF_NO_POINTS[kind.word()]), True)
            self.assertEqual(kind.best([], OF_NO_POINTS[kind.word()]), (0, [], 0, []))

    def test_sided(self):
        for chance, web in self.several("sided"):
            left, right = kind_of("sided").made(web)
            for rows in [[left, right], [right, left], [left[::-1], right[::-1]]]:
                self.check_told("sided", web, rows)

    def test_rounds(self):
        for chance, web in self.several("rounds"):
            self.check_told("rounds", web, [some_order(web, chance)])

    def test_split(self):
        for chance, web in self.several("split"):
            first, second = kind_of("split").made(web)
            self.check_told("split", web, [first[::-1], second[::-1]])
        self.check_told("split", full(4), [[0, 1, 2, 3], []])
        self.check_told("split", full(4), [[3, 1, 0], [2]])
        self.check_told("split", bare(4), [[], [0, 1, 2, 3]])
        self.check_told("split", bare(4), [[2], [0, 3, 1]])
        self.check_told("split", row(3), [[1], [0, 2]])
        self.check_told("split", row(3), [[1, 2], [0]])
        self.check_told("split", row(3), [[0, 1], [2]])

    def test_steps(self):
        for chance, web in self.several("steps"):
            rows = kind_of("steps").made(web)
            for mark in [0, 1]:
                self.check_told("steps", web, [[rows[0][0], mark]] + rows[1:])

    def test_joins(self):
        for chance, web in self.several("joins"):
            rows = kind_of("joins").made(web)
            self.check_told("joins", web, [[mark, y, x] for mark, x, y in rows])

    def test_ranked(self):
        for chance, web in self.several("ranked"):
            rows = kind_of("ranked").made(web)
            self.check_told("ranked", web, [[b, a] for a, b in rows])
            self.check_told("ranked", web, chance.sample(rows, len(rows)))

    def test_turned(self):
        for chance, web in self.several("turned"):
            one, two = kind_of("turned").made(web)
            for rows in [[one, two], [two, one], [one[::-1], two[::-1]]]:
                self.check_told("turned", web, rows)

    def test_spans(self):
        for chance, web in self.several("spans"):
            rows = kind_of("spans").made(web)
            self.check_told("spans", web, [[-r, -l] for l, r in rows])
            self.check_told("spans", web, [[l * HUGE - 7, r * HUGE] for l, r in rows])
            self.check_told("spans", web, [[2 * l - p % 2, 2 * r] for p, (l, r) in enumerate(rows)])
        self.check_told("spans", row(3), [[-WIDE, 0], [0, 5], [5, WIDE]])

    def test_of_what_the_best_is_told(self):
        rows = [[2, 0], [0, 1], [3, 0], [1, 1]]
        web = by_steps(rows)
        self.assertEqual(kind_of("steps").best(web, rows), best_by_order(web, [2, 3, 0, 1]))
        self.assertEqual(kind_of("split").best(web, [[1, 0], [3, 2]]), best_by_order(web, [3, 2, 1, 0]))
        self.assertEqual(kind_of("rounds").best(web, [[2, 3, 1, 0]]), best_by_order(web, [2, 3, 1, 0]))
        self.assertEqual(kind_of("spans").best(row(3), [[5, 9], [3, 5], [0, 3]]), best_by_order(row(3), [2, 1, 0]))
        self.assertEqual(kind_of("sided").best(row(3), [[1], [2, 0]]), best_by_sides(row(3), 0b010))
        joins = [[0, 2, 0], [1, 1, 3]]
        self.assertEqual(kind_of("joins").best(row(3), joins), best_by_joining(row(3), joins))
        told = [[1, 0], [1, 2]]
        self.assertEqual(kind_of("ranked").best(row(3), told), best_by_arrows(row(3), told))
        self.assertEqual(kind_of("turned").best(row(3), [[1, 0, 2], [0, 2, 1]]), best_by_arrows(row(3), told))

    def test_the_points_by_rising_r_and_not_by_l(self):
        web = [0b1110, 0b0001, 0b0001, 0b0001]
        self.assertTrue(all(is_tied(web, 0, p) for p in [1, 2, 3]))
        self.check_told("spans", web, [[0, 9], [1, 2], [4, 5], [7, 8]])
        self.assertEqual(members(kind_of("spans").best(web, [[0, 9], [1, 2], [4, 5], [7, 8]])[2]), [1, 2, 3])
