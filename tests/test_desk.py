import unittest

from cotreehall.desk import Desk
from cotreehall.errors import HallError, NoKind, NoName, NoPoint, NoRow, NoText, NoTie, NoWeb
from cotreehall.kinds import kind_of, kinds
from cotreehall.texts import read_paper, read_web, shown_paper, shown_web
from helper import HUGE, WIDE, check_best, full, great_webs, other, ring, row, small_webs

WORDS = ["sided", "rounds", "split", "steps", "joins", "ranked", "turned", "spans"]
NO_NAMES = ["", "A", "aB", "a1", "1", "abcdefghi", "a.", "a-b", "-", "a_b", "/"]


def laid(webs):
    desk = Desk()
    for name, web in webs.items():
        desk.say(f"web {name} {shown_web(web)}")
    return desk


def standing(desk):
    """All that stands on the desk."""
    return {name: desk.say(f"show {name}") for name in desk.say("names").split(" ") if name}


def usual():
    return laid({"one": ring(4), "two": row(3), "big": ring(14), "none": []})


class RowsTest(unittest.TestCase):
    def check_says(self, desk, row_told, answer):
        told = desk.say(row_told)
        self.assertIs(type(told), str)
        self.assertEqual(told, answer, row_told)

    def test_web_and_show(self):
        desk = Desk()
        self.check_says(desk, "web a 4 3-1 1-0 0-1", "ok")
        self.check_says(desk, "show a", "4 0-1 1-3")
        self.check_says(desk, "web abcdefgh 0", "ok")
        self.check_says(desk, "show abcdefgh", "0")
        self.check_says(desk, "web web 1", "ok")
        self.check_says(desk, "show web", "1")

    def test_names(self):
        desk = Desk()
        self.check_says(desk, "names", "")
        for name in ["c", "ab", "b", "a"]:
            desk.say(f"web {name} 1")
        self.check_says(desk, "names", "a ab b c")
        desk.say("drop b")
        self.check_says(desk, "names", "a ab c")

    def test_other(self):
        desk = usual()
        self.check_says(desk, "other new one", "ok")
        self.check_says(desk, "show new", "4 0-2 1-3")
        self.check_says(desk, "show one", "4 0-1 0-3 1-2 2-3")
        self.check_says(desk, "other none none", "ok")
        self.check_says(desk, "show none", "0")

    def test_part(self):
        desk = usual()
        self.check_says(desk, "part new two 2 1", "ok")
        self.check_says(desk, "show new", "2 0-1")
        self.check_says(desk, "part new two 2 0", "ok")
        self.check_says(desk, "show new", "2")
        self.check_says(desk, "part new two 1 0 2", "ok")
        self.check_says(desk, "show new", "3 0-1 0-2")
        self.check_says(desk, "part new two", "ok")
        self.check_says(desk, "show new", "0")
        self.check_says(desk, "part new big 13 12 11 10 9 8 7 6 5 4 3 2 1 0", "ok")
        self.check_says(desk, "show new", shown_web(ring(14)))

    def test_beside_and_joined(self):
        desk = usual()
        self.check_says(desk, "beside new two one", "ok")
        self.check_says(desk, "show new", "7 0-1 1-2 3-4 3-6 4-5 5-6")
        self.check_says(desk, "joined new two two", "ok")
        self.check_says(desk, "show new", "6 0-1 0-3 0-4 0-5 1-2 1-3 1-4 1-5 2-3 2-4 2-5 3-4 4-5")
        self.check_says(desk, "beside new big none", "ok")
        self.check_says(desk, "show new", shown_web(ring(14)))
        self.check_says(desk, "joined new none none", "ok")
        self.check_says(desk, "show new", "0")

    def test_drop(self):
        desk = usual()
        self.check_says(desk, "drop one", "ok")
        self.check_says(desk, "names", "big none two")
        with self.assertRaises(NoName):
            desk.say("show one")
        with self.assertRaises(NoName):
            desk.say("drop one")
        self.check_says(desk, "web one 2", "ok")
        self.check_says(desk, "show one", "2")

    def test_kinds(self):
        desk = usual()
        self.check_says(desk, "kinds none", " ".join(WORDS))
        self.check_says(desk, "kinds one", "sided joins ranked turned")
        self.check_says(desk, "kinds two", " ".join(WORDS))
        self.check_says(desk, "kinds big", "sided ranked")
        desk.say("web five 5 0-1 1-2 2-3 3-4 4-0")
        self.check_says(desk, "kinds five", "")
        desk.say("web full 3 0-1 1-2 0-2")
        self.check_says(desk, "kinds full", "rounds split steps joins ranked turned spans")

    def test_paper(self):
        for web in small_webs(3) + great_webs()[::9]:
            desk = laid({"a": web})
            for kind in kinds():
                self.check_says(desk, f"paper a {kind.word()}", shown_paper(kind.word(), kind.paper(web)))
                word, paper = read_paper(desk.say(f"paper a {kind.word()}"))
                self.assertEqual(word, kind.word())
                self.check_says(desk, f"look a {shown_paper(word, paper)}", "right")
        self.check_says(usual(), "paper none split", "split yes . / .")
        self.check_says(usual(), "paper none joins", "joins yes")

    def test_look(self):
        desk = usual()
        self.check_says(desk, "look one sided yes 0 2 / 1 3", "right")
        self.check_says(desk, "look one sided yes 3 1 / 0 2", "right")
        self.check_says(desk, "look one sided yes 0 1 / 2 3", "wrong")
        self.check_says(desk, "look one sided yes", "wrong")
        self.check_says(desk, "look one sided no 0 1 2", "wrong")
        self.check_says(desk, "look one rounds no 0 1 2 3", "right")
        self.check_says(desk, "look one rounds yes 0 1 2 3", "wrong")
        self.check_says(desk, "look one spans no 0 / 1 2 3 0", "right")
        self.check_says(desk, "look none joins yes", "right")
        self.check_says(desk, "look none joins no", "wrong")
        self.check_says(desk, "look none sided yes . / .", "right")
        self.check_says(desk, f"look two spans yes -{WIDE} 0 / 0 {HUGE} / {HUGE} {WIDE}", "right")

    def test_best(self):
        for web in small_webs(3) + great_webs()[::9]:
            desk = laid({"a": web})
            for word in WORDS:
                told = desk.say(f"best a {word}")
                if kind_of(word).made(web) is None:
                    self.assertEqual(told, "none")
                else:
                    check_best(self, web, self.best_in(told))
        self.check_says(usual(), "best none spans", ". / .")
        self.check_says(usual(), "best one rounds", "none")
        self.check_says(laid({"a": full(1)}), "best a steps", "0 / 0 / 0 / 0")
        told = laid({"a": full(2)}).say("best a joins")
        self.assertIn(told, [f"0 1 / {a} / {1 - a} / {b} / 0 1" for a in [0, 1] for b in [0, 1]])

    def best_in(self, text):
        rows = [[] if told == "." else [int(word) for word in told.split(" ")] for told in text.split(" / ")]
        for points in rows:
            self.assertEqual(points, sorted(points))
        sets = [sum(2 ** p for p in points) for points in rows]
        many = len(rows[0])
        self.assertEqual(len(rows), 1 + many + 1 + len(rows[1 + many]))
        return (sets[0], sets[1:1 + many], sets[1 + many], sets[2 + many:])


class NoRowTest(unittest.TestCase):
    def test_first_words_that_are_none(self):
        for told in ["", " ", "x", "Web a 3", "webs a 3", "shows one", "name", "names one", " names", "names ", "part",
                     "Names", "ok", "/", "one", "web", "look", "help", "best   ", "best ", "  "]:
            with self.assertRaises(NoRow, msg=told):
                usual().say(told)

    def test_how_many_words(self):
        counts = {"other": [3], "beside": [4], "joined": [4], "drop": [2], "show": [2], "names": [1], "kinds": [2],
                  "paper": [3], "best": [3], "web": range(3, 9), "look": range(3, 9), "part": range(3, 9)}
        for first, right in counts.items():
            for many in range(1, 9):
                for word in ["one", "", "X"]:
                    self.check_row(" ".join([first] + [word] * (many - 1)), many in right)

    def check_row(self, told, is_row):
        try:
            usual().say(told)
            self.assertTrue(is_row, told)
        except HallError as error:
            self.assertEqual(type(error) is not NoRow, is_row, told)


class RefusalTest(unittest.TestCase):
    def check_refused(self, told, error):
        desk = usual()
        before = standing(desk)
        with self.assertRaises(HallError, msg=told) as caught:
            desk.say(told)
        self.assertIs(type(caught.exception), error, told)
        self.assertEqual(standing(desk), before, told)

    def test_words_that_are_no_names(self):
        for name in NO_NAMES:
            for told in [f"web {name} 3", f"other {name} one", f"other new {name}", f"part {name} one 0",
                         f"part new {name} 0", f"beside {name} one two", f"beside new {name} two",
                         f"joined new one {name}", f"drop {name}", f"show {name}", f"kinds {name}",
                         f"paper {name} sided", f"look {name} joins yes", f"best {name} sided"]:
                self.check_refused(told, NoName)

    def test_names_by_which_no_web_stands(self):
        for told in ["other new gone", "part new gone", "part new gone 0", "beside new gone one", "beside new one gone",
                     "joined new gone gone", "drop gone", "show gone", "kinds gone", "paper gone sided",
                     "look gone joins yes", "best gone sided", "other gone gone"]:
            self.check_refused(told, NoName)

    def test_words_that_are_no_kinds(self):
        for word in ["", "x", "Sided", "sideds", "abcdefghi", "1", "one", "."]:
            self.check_refused(f"paper one {word}", NoKind)
            self.check_refused(f"best one {word}", NoKind)
        self.check_refused("look one webs yes", NoKind)

    def test_texts(self):
        for told, error in [("web new ", NoText), ("web new x", NoText), ("web new 3  0-1", NoText),
                            ("web new 3 0-1 ", NoText), ("web new 15", NoWeb), ("web new 15 0-0", NoWeb),
                            ("web new 3 0-3", NoTie), ("web one 3 0-0", NoTie), ("web one 03", NoText),
                            ("look one ", NoText), ("look one joins", NoText), ("look one joins yes ", NoText),
                            ("look one  joins yes", NoText), ("look one webs maybe", NoText),
                            ("look one sided yes 0 / ", NoText), ("look one abcdefghi yes", NoText)]:
            self.check_refused(told, error)

    def test_points_of_a_part(self):
        for point in ["", "x", "00", "-0", "-1", "+1", "1" * 61, ".", "0-1"]:
            for told in [f"part new one {point}", f"part new one 0 {point}", f"part new one {point} 0",
                         f"part new one 99 {point}", f"part new one 0 0 {point}", f"part one one {point} 1"]:
                self.check_refused(told, NoText)
        for points in ["4", "0 4", "4 0", "0 0", "1 2 1", "0 1 2 3 0", str(HUGE), str(WIDE), "0 1 2 3 4", "14"]:
            self.check_refused(f"part new one {points}", NoPoint)
            self.check_refused(f"part one one {points}", NoPoint)
        self.check_refused("part new none 0", NoPoint)

    def test_too_many_points_together(self):
        for told in ["beside new big two", "joined new two big", "beside big big big", "joined big big two"]:
            self.check_refused(told, NoWeb)

    def test_the_first_word_from_the_left_that_is_wrong(self):
        for told, error in [("web A x", NoName), ("web A 15", NoName), ("part A one x", NoName),
                            ("part new gone x", NoName), ("part new gone 99", NoName), ("paper gone x", NoName),
                            ("paper A x", NoName), ("best gone x", NoName), ("look gone x", NoName),
                            ("look A webs yes", NoName), ("beside A big big", NoName), ("beside new big A", NoName),
                            ("joined new big gone", NoName), ("joined gone gone big", NoName), ("web  ", NoName),
                            ("other A gone", NoName), ("x A", NoRow), ("show A B", NoRow), ("paper gone", NoRow)]:
            self.check_refused(told, error)


class KeptTest(unittest.TestCase):
    def test_a_name_given_anew(self):
        desk = usual()
        desk.say("web one 2 0-1")
        self.assertEqual(desk.say("show one"), "2 0-1")
        desk.say("other one one")
        self.assertEqual(desk.say("show one"), "2")
        desk.say("joined one one two")
        self.assertEqual(desk.say("show one"), "5 0-2 0-3 0-4 1-2 1-3 1-4 2-3 3-4")
        desk.say("beside two two two")
        self.assertEqual(desk.say("show two"), "6 0-1 1-2 3-4 4-5")
        desk.say("part two two 5 4")
        self.assertEqual(desk.say("show two"), "2 0-1")
        self.assertEqual(desk.say("names"), "big none one two")

    def test_webs_made_of_others_stand_by_themselves(self):
        desk = usual()
        desk.say("other new one")
        desk.say("beside more one none")
        desk.say("drop one")
        self.assertEqual(desk.say("show new"), "4 0-2 1-3")
        desk.say("web none 1")
        self.assertEqual(desk.say("show more"), "4 0-1 0-3 1-2 2-3")

    def test_two_desks_beside_each_other(self):
        first, second = Desk(), Desk()
        first.say("web a 1")
        self.assertEqual(second.say("names"), "")
        second.say("web a 2 0-1")
        second.say("web b 3")
        self.assertEqual(first.say("show a"), "1")
        self.assertEqual(first.say("names"), "a")
        first.say("drop a")
        self.assertEqual(second.say("names"), "a b")

    def test_asking_changes_nothing(self):
        desk = usual()
        before = standing(desk)
        for told in ["kinds one", "paper one sided", "look one joins yes", "best big sided", "names", "show none"]:
            desk.say(told)
            self.assertEqual(standing(desk), before)

    def test_what_is_shown_is_the_web(self):
        for web in great_webs()[::7]:
            desk = laid({"a": web})
            desk.say("other b a")
            self.assertEqual(read_web(desk.say("show b")), other(web))
