"""What is promised over all kinds together."""

import unittest

from cotreehall.kinds import kind_of, kinds
from cotreehall.triples import triple
from cotreehall.webs import other_web
from helper import check_best, great_webs, right_paper, small_webs, ways_of_fourteen


def are_of(web):
    return {kind.word(): kind.paper(web)[0] for kind in kinds()}


def the_webs():
    return small_webs(4) + great_webs() + ways_of_fourteen(4)


class WholeTest(unittest.TestCase):
    def test_each_paper_is_right_and_the_best_is_told_where_it_says_yes(self):
        for web in the_webs():
            for kind in kinds():
                paper = kind.paper(web)
                self.assertTrue(right_paper(kind.word(), web, paper), (kind.word(), web, paper))
                self.assertIs(kind.holds(web, paper), True)
                if paper[0]:
                    check_best(self, web, kind.best(web, paper[1]))

    def test_which_kinds_go_together(self):
        for web in the_webs() + small_webs(5):
            of, across = are_of(web), are_of(other_web(web))
            self.assertTrue(not of["steps"] or of["split"] and of["joins"], web)
            self.assertEqual(of["split"], of["rounds"] and across["rounds"], web)
            self.assertTrue(not of["joins"] or of["turned"], web)
            self.assertEqual(of["turned"], of["ranked"] and across["ranked"], web)
            self.assertEqual(of["spans"], of["rounds"] and across["ranked"], web)
            self.assertTrue(not of["sided"] or of["ranked"], web)

    def test_a_web_of_rounds_has_spans_just_where_no_three_points_go_round_one_another(self):
        for web in the_webs() + small_webs(5):
            if kind_of("rounds").made(web) is not None:
                self.assertEqual(kind_of("spans").made(web) is not None, triple(web) is None, web)

    def test_each_kind_has_webs_and_has_not_all(self):
        told = [are_of(web) for web in great_webs()]
        for kind in kinds():
            answers = [of[kind.word()] for of in told]
            self.assertTrue(answers.count(True) > 5 and answers.count(False) > 5, kind.word())
