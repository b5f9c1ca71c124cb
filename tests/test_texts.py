import unittest

from cotreehall.errors import NoKind, NoText, NoTie, NoWeb
from cotreehall.kinds import kinds
from cotreehall.texts import read_paper, read_web, shown_paper, shown_web
from helper import (
    HUGE, WIDE, bare, check_free, check_kept, full, great_webs, is_whole_number, mixed, ring, row, small_webs)

NO_COUNTS = ["", "00", "-0", "+1", "-1", "01", "007", "1" * 61, "0" * 60, "x", "1x", "1.", ".", "-", "--1", "1_0",
             "0x1", "1e3", "one", "/", "-" + "1" * 61, "-01"]


class ReadWebTest(unittest.TestCase):
    def test_the_example(self):
        self.assertEqual(read_web("4 0-1 1-3"), [2, 9, 0, 2])
        self.assertEqual(shown_web([2, 9, 0, 2]), "4 0-1 1-3")

    def test_any_order_either_way_round_and_more_than_once(self):
        self.assertEqual(read_web("4 3-1 1-0"), [2, 9, 0, 2])
        self.assertEqual(read_web("4 0-1 1-3 1-0 0-1 3-1"), [2, 9, 0, 2])

    def test_webs_without_ties(self):
        for many in range(15):
            self.assertEqual(read_web(str(many)), [0] * many)
            self.assertEqual(shown_web([0] * many), str(many))

    def test_there_and_back(self):
        for web in small_webs(4) + great_webs():
            self.assertEqual(read_web(shown_web(web)), web)
        self.assertEqual(shown_web(row(12)),
                         "12 0-1 1-2 2-3 3-4 4-5 5-6 6-7 7-8 8-9 9-10 10-11")
        self.assertEqual(shown_web(ring(4)), "4 0-1 0-3 1-2 2-3")
        self.assertEqual(shown_web([2 ** 10, 2 ** 2, 2 ** 1] + [0] * 7 + [1]), "11 0-10 1-2")

    def test_long_texts(self):
        self.assertEqual(read_web(shown_web(full(14)) + " 0-1" * 800), full(14))

    def test_numbers_of_points_of_another_form(self):
        for text in NO_COUNTS:
            for rest in ["", " 0-1"]:
                with self.assertRaises(NoText, msg=text):
                    read_web(text + rest)

    def test_ties_of_another_form(self):
        wrong = ["0", "0-", "-1", "0--1", "-0-1", "0-1-2", "0-1-", "-", "--", "0+1", "0 - 1", "0- 1", "0/1", "0-x"]
        for tie in wrong + [text + "-1" for text in NO_COUNTS] + ["1-" + text for text in NO_COUNTS]:
            for text in ["4 " + tie, "4 0-1 " + tie, "4 " + tie + " 0-1"]:
                with self.assertRaises(NoText, msg=text):
                    read_web(text)

    def test_blanks_at_wrong_places(self):
        for text in ["", " ", " 4", "4 ", "4  0-1", "4 0-1 ", " 4 0-1", "4 0-1  1-3", "4 0 -1", "  "]:
            with self.assertRaises(NoText, msg=text):
                read_web(text)

    def test_sixty_figures_are_a_number(self):
        for text in [str(HUGE), str(WIDE), "15", "100", "9" * 60]:
            with self.assertRaises(NoWeb):
                read_web(text)
            with self.assertRaises(NoTie):
                read_web("4 0-" + text)
            with self.assertRaises(NoTie):
                read_web("4 " + text + "-0")

    def test_no_text_then_no_web_then_no_tie(self):
        for text, error in [("15 0-0", NoWeb), ("15 0-20", NoWeb), ("15 0-x", NoText), ("15 0-0 ", NoText),
                            ("4 0-0", NoTie), ("4 0-4", NoTie), ("4 0-0 1-", NoText), ("4 4-0 -0-1", NoText),
                            ("0 0-1", NoTie), ("1 0-0", NoTie), ("4 0-1 3-3", NoTie), ("15 -1", NoText)]:
            with self.assertRaises(error, msg=text):
                read_web(text)

    def test_lists(self):
        for text in ["0", "1", "4 0-1 1-3"]:
            check_free(self, read_web, text)
        for mates in read_web("3 0-1"):
            self.assertTrue(is_whole_number(mates))
        for web in [[], ring(5), mixed(14)]:
            check_kept(self, shown_web, web)
            self.assertIs(type(shown_web(web)), str)


class ReadPaperTest(unittest.TestCase):
    def test_the_examples(self):
        for text, right in [("sided yes 0 2 / 1", ("sided", (True, [[0, 2], [1]]))),
                            ("split yes . / 0", ("split", (True, [[], [0]]))),
                            ("joins yes", ("joins", (True, [])))]:
            self.assertEqual(read_paper(text), right)
            self.assertEqual(shown_paper(*right), text)

    def test_other_papers(self):
        for text, right in [("rounds no 0 1 2 3", ("rounds", (False, [[0, 1, 2, 3]]))),
                            ("turned yes . / .", ("turned", (True, [[], []]))),
                            ("rounds yes .", ("rounds", (True, [[]]))),
                            ("steps no", ("steps", (False, []))),
                            ("spans yes -3 -1 / -1 0", ("spans", (True, [[-3, -1], [-1, 0]]))),
                            ("spans no 1 / 0 / . / 0", ("spans", (False, [[1], [0], [], [0]]))),
                            ("ranked no " + str(-WIDE) + " " + str(HUGE), ("ranked", (False, [[-WIDE, HUGE]])))]:
            self.assertEqual(read_paper(text), right)
            self.assertIs(type(read_paper(text)), tuple)
            self.assertIs(type(read_paper(text)[1]), tuple)
            self.assertIs(read_paper(text)[1][0], right[1][0])
            self.assertEqual(shown_paper(*right), text)

    def test_there_and_back(self):
        for web in small_webs(3) + great_webs()[::3]:
            for kind in kinds():
                paper = kind.paper(web)
                self.assertEqual(read_paper(shown_paper(kind.word(), paper)), (kind.word(), paper))

    def test_words_of_another_form(self):
        for word in ["", "abcdefghi", "Sided", "side1", "si-ded", "sided.", "1", ".", "/", "SIDED", "_", "sided,"]:
            for rest in [" yes", " no 0 / 1", " yes ."]:
                with self.assertRaises(NoText, msg=word):
                    read_paper(word + rest)

    def test_words_that_are_no_kinds(self):
        for word in ["a", "side", "sideds", "abcdefgh", "yes", "no", "webs"]:
            for rest in [" yes", " no 0 / 1", " yes .", " no"]:
                with self.assertRaises(NoKind, msg=word):
                    read_paper(word + rest)

    def test_no_text_ahead_of_no_kind(self):
        for text in ["webs", "webs maybe", "webs yes ", "webs yes 0 /", "webs yes 00", "webs  yes", "webs yes 0  1"]:
            with self.assertRaises(NoText, msg=text):
                read_paper(text)

    def test_yes_and_no_alone(self):
        for text in ["sided", "sided ", "sided Yes", "sided y", "sided yess", "sided true", "sided 0", "sided .",
                     "sided  yes", "yes", "no", "", " ", "sided yesno", "sided YES 0", "sided / 0", "sided n"]:
            with self.assertRaises(NoText, msg=text):
                read_paper(text)

    def test_blanks_and_strokes_at_wrong_places(self):
        for rows in ["", " ", "/", "/ 0", "0 /", "0 / ", " / 0", "0 / / 1", "0 /  / 1", "0/1", "0 /1", "0/ 1", "0  1",
                     " 0", "0 ", "0  / 1", "0 /  1", ". .", ". 0", "0 .", "..", ". / ", "./.", "0 // 1", "0 / 1 /",
                     ". /", "/ .", "- / 1", "0,1"]:
            with self.assertRaises(NoText, msg=rows):
                read_paper("sided yes " + rows)
        with self.assertRaises(NoText):
            read_paper(" sided yes 0")

    def test_numbers_of_another_form(self):
        long = ["1" * 61, "-" + "1" * 61]
        for number in ["00", "-0", "+1", "01", "-01", "-00", "--1", "-", "1-", "x", "1x", "0-1"] + long:
            for rows in [number, "0 " + number, number + " 0", "0 / " + number, number + " / ."]:
                with self.assertRaises(NoText, msg=rows):
                    read_paper("sided no " + rows)

    def test_numbers_of_sixty_figures(self):
        for number in [HUGE, WIDE, -HUGE, -WIDE, 0, 10, -10]:
            self.assertEqual(read_paper(f"joins no {number}"), ("joins", (False, [[number]])))
            self.assertTrue(is_whole_number(read_paper(f"joins no {number}")[1][1][0][0]))

    def test_long_texts(self):
        rows = [[k, -k] for k in range(1, 300)]
        text = "ranked yes " + " / ".join(f"{k} {-k}" for k in range(1, 300))
        self.assertEqual(read_paper(text), ("ranked", (True, rows)))
        self.assertEqual(shown_paper("ranked", (True, rows)), text)

    def test_lists(self):
        for text in ["joins yes", "sided yes 0 2 / 1", "split yes . / 0"]:
            check_free(self, read_paper, text)
        for paper in [(True, []), (False, [[0, 1], []])]:
            check_kept(self, shown_paper, "joins", paper)
        self.assertEqual(shown_paper("steps", (True, bare(0))), "steps yes")
