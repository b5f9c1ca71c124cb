"""The eight kinds of webs, each with papers that say yes or no."""

from cotreehall.best import best_by_arrows, best_by_joining, best_by_order, best_by_sides
from cotreehall.errors import NoKind
from cotreehall.forcing import arrows, chain, is_arrows, is_chain
from cotreehall.halving import halves, is_halves, is_no_halves, no_halves
from cotreehall.joins import is_joining, is_line_of_four, joining, line_of_four
from cotreehall.rounds import chordless, is_chordless, is_taking, taking
from cotreehall.sets import points_of, set_of, without
from cotreehall.shapes import are_all_points, pairs_of
from cotreehall.sides import is_odd_ring, is_sides, odd_ring, sides
from cotreehall.spans import is_no_spans, is_spans, no_spans, spans
from cotreehall.stepwise import is_no_steps, is_steps, no_steps, steps
from cotreehall.turning import is_no_turning, is_turning, no_turning, turning
from cotreehall.webs import tied, whole_of


def one_row(some):
    return None if some is None else [some]


def marked_rows(told):
    return None if told is None else [[told[0]]] + told[1]


def has_mark(rows):
    return len(rows) > 0 and len(rows[0]) == 1


def part_the_points(web, rows):
    return len(rows) == 2 and are_all_points(web, rows[0] + rows[1])


class Kind:
    def word(self):
        raise NotImplementedError("each kind has its own word")

    def made(self, web):
        raise NotImplementedError("each kind makes webs in its own way")

    def barred(self, web):
        raise NotImplementedError("each kind has its own pieces against it")

    def makes(self, web, rows):
        raise NotImplementedError("each kind makes webs in its own way")

    def bars(self, web, rows):
        raise NotImplementedError("each kind has its own pieces against it")

    def best(self, web, rows):
        raise NotImplementedError("each kind tells the best by its own rows")

    def paper(self, web):
        rows = self.made(web)
        return (False, self.barred(web)) if rows is None else (True, rows)

    def holds(self, web, paper):
        return self.makes(web, paper[1]) if paper[0] else self.bars(web, paper[1])


class Sided(Kind):
    def word(self):
        return "sided"

    def made(self, web):
        left = sides(web)
        return None if left is None else [points_of(left), points_of(without(whole_of(web), left))]

    def barred(self, web):
        return one_row(odd_ring(web))

    def makes(self, web, rows):
        return part_the_points(web, rows) and is_sides(web, set_of(rows[0]))

    def bars(self, web, rows):
        return len(rows) == 1 and is_odd_ring(web, rows[0])

    def best(self, web, rows):
        return best_by_sides(web, set_of(rows[0]))


class Rounds(Kind):
    def word(self):
        return "rounds"

    def made(self, web):
        return one_row(taking(web))

    def barred(self, web):
        return one_row(chordless(web))

    def makes(self, web, rows):
        return len(rows) == 1 and is_taking(web, rows[0])

    def bars(self, web, rows):
        return len(rows) == 1 and is_chordless(web, rows[0])

    def order_of(self, rows):
        return rows[0]

    def best(self, web, rows):
        return best_by_order(web, self.order_of(rows))


class Split(Rounds):
    def word(self):
        return "split"

    def made(self, web):
        told = halves(web)
        return None if told is None else [points_of(told[0]), points_of(told[1])]

    def barred(self, web):
        return one_row(no_halves(web))

    def makes(self, web, rows):
        return part_the_points(web, rows) and is_halves(web, set_of(rows[0]), set_of(rows[1]))

    def bars(self, web, rows):
        return len(rows) == 1 and is_no_halves(web, rows[0])

    def order_of(self, rows):
        return rows[1] + rows[0]


class Steps(Rounds):
    def word(self):
        return "steps"

    def made(self, web):
        return steps(web)

    def barred(self, web):
        return one_row(no_steps(web))

    def makes(self, web, rows):
        return is_steps(web, rows)

    def bars(self, web, rows):
        return len(rows) == 1 and is_no_steps(web, rows[0])

    def order_of(self, rows):
        return [p for p, mark in rows if mark == 0] + [p for p, mark in rows if mark == 1]


class Joins(Kind):
    def word(self):
        return "joins"

    def made(self, web):
        return joining(web)

    def barred(self, web):
        return one_row(line_of_four(web))

    def makes(self, web, rows):
        return is_joining(web, rows)

    def bars(self, web, rows):
        return len(rows) == 1 and is_line_of_four(web, rows[0])

    def best(self, web, rows):
        return best_by_joining(web, rows)


class Ranked(Kind):
    def word(self):
        return "ranked"

    def made(self, web):
        return arrows(web)

    def barred(self, web):
        return chain(web)

    def makes(self, web, rows):
        return is_arrows(web, rows)

    def bars(self, web, rows):
        return is_chain(web, rows)

    def arrows_of(self, web, rows):
        return rows

    def best(self, web, rows):
        return best_by_arrows(web, self.arrows_of(web, rows))


class Turned(Ranked):
    def word(self):
        return "turned"

    def made(self, web):
        told = turning(web)
        return None if told is None else [told[0], told[1]]

    def barred(self, web):
        return marked_rows(no_turning(web))

    def makes(self, web, rows):
        return len(rows) == 2 and is_turning(web, rows[0], rows[1])

    def bars(self, web, rows):
        return has_mark(rows) and is_no_turning(web, rows[0][0], rows[1:])

    def arrows_of(self, web, rows):
        order = rows[0]
        return [[order[j], order[k]] for j, k in pairs_of(len(order)) if tied(web, order[j], order[k])]


class Spans(Rounds):
    def word(self):
        return "spans"

    def made(self, web):
        return spans(web)

    def barred(self, web):
        return marked_rows(no_spans(web))

    def makes(self, web, rows):
        return is_spans(web, rows)

    def bars(self, web, rows):
        return has_mark(rows) and is_no_spans(web, rows[0][0], rows[1:])

    def order_of(self, rows):
        return sorted(range(len(rows)), key=lambda p: rows[p][1])


def kinds():
    return [Sided(), Rounds(), Split(), Steps(), Joins(), Ranked(), Turned(), Spans()]


def kind_of(word):
    for kind in kinds():
        if kind.word() == word:
            return kind
    raise NoKind(f"no kind has the word {word!r}")
