"""A desk that keeps webs by names and answers rows of words."""

from cotreehall.errors import NoName, NoPoint, NoRow
from cotreehall.kinds import kind_of, kinds
from cotreehall.sets import points_of
from cotreehall.shapes import are_points
from cotreehall.texts import count_of, is_word, read_paper, read_web, shown_paper, shown_rows, shown_web
from cotreehall.webs import beside, joined, other_web, part

JUST = {"other": 3, "beside": 4, "joined": 4, "drop": 2, "show": 2, "names": 1, "kinds": 2, "paper": 3, "best": 3}
LEAST = {"web": 3, "look": 3, "part": 3}


def is_row(words):
    if words[0] in LEAST:
        return len(words) >= LEAST[words[0]]
    return JUST.get(words[0]) == len(words)


def refuse_name(name):
    if not is_word(name):
        raise NoName(f"{name!r} is no name")


def part_by(web, words):
    points = [count_of(word) for word in words]
    if not are_points(web, points):
        raise NoPoint(f"{points} are no unlike points of the web")
    return part(web, points)


def words_of_kinds(web):
    return " ".join([kind.word() for kind in kinds() if kind.made(web) is not None])


def look(web, text):
    told = read_paper(text)
    return "right" if kind_of(told[0]).holds(web, told[1]) else "wrong"


def shown_best(web, kind):
    rows = kind.made(web)
    if rows is None:
        return "none"
    told = kind.best(web, rows)
    several = [told[0]] + told[1] + [told[2]] + told[3]
    return shown_rows([points_of(some) for some in several])


class Desk:
    def __init__(self):
        self.webs = {}

    def say(self, row):
        words = row.split(" ")
        if not is_row(words):
            raise NoRow(f"{row!r} is no row of the desk")
        if words[0] == "names":
            return " ".join(sorted(self.webs))
        if words[0] in ("web", "other", "part", "beside", "joined"):
            return self.put(words)
        if words[0] == "drop":
            return self.drop(words[1])
        return self.tell(words)

    def web_by(self, name):
        refuse_name(name)
        if name not in self.webs:
            raise NoName(f"no web stands by {name}")
        return self.webs[name]

    def put(self, words):
        refuse_name(words[1])
        self.webs[words[1]] = self.new_web(words)
        return "ok"

    def new_web(self, words):
        if words[0] == "web":
            return read_web(" ".join(words[2:]))
        web = self.web_by(words[2])
        if words[0] == "other":
            return other_web(web)
        if words[0] == "part":
            return part_by(web, words[3:])
        if words[0] == "beside":
            return beside(web, self.web_by(words[3]))
        return joined(web, self.web_by(words[3]))

    def drop(self, name):
        self.web_by(name)
        self.webs.pop(name)
        return "ok"

    def tell(self, words):
        web = self.web_by(words[1])
        if words[0] == "show":
            return shown_web(web)
        if words[0] == "kinds":
            return words_of_kinds(web)
        if words[0] == "look":
            return look(web, " ".join(words[2:]))
        kind = kind_of(words[2])
        if words[0] == "paper":
            return shown_paper(kind.word(), kind.paper(web))
        return shown_best(web, kind)
