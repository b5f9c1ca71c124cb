"""Webs with spans: two points are tied just where their spans meet."""

from cotreehall.forcing import arrows, chain, ends_from, is_chain
from cotreehall.halving import two_ties
from cotreehall.sets import points_of
from cotreehall.shapes import is_ring, pairs_of
from cotreehall.webs import other_web, tied


def do_meet(one, two):
    return one[0] <= two[1] and two[0] <= one[1]


def is_spans(web, rows):
    if len(rows) != len(web) or not all([len(row) == 2 and row[0] <= row[1] for row in rows]):
        return False
    return all([tied(web, a, b) == do_meet(rows[a], rows[b]) for a, b in pairs_of(len(web))])


def ring_of_four(web):
    # Two ties of the other web that have nothing to do with one another there
    # are the two pairs of points that face each other in a ring here.
    four = two_ties(other_web(web))
    return None if four is None else [four[0], four[2], four[1], four[3]]


def end_ahead_of(begins, behind):
    # Where nothing lies behind, the span goes on to the last number in use.
    return min([begins[q] - 1 for q in points_of(behind)], default=len(begins) - 1)


def spans_by(many, rows):
    """Spans of which one lies ahead of another just where an arrow goes from it to that one."""
    # Without rings of four the sets of those ahead lie in one another, so that
    # their sizes tell them apart.
    heads = [b for a, b in rows]
    begins = [heads.count(p) for p in range(many)]
    behind = ends_from(many, rows)
    return [[begins[p], end_ahead_of(begins, behind[p])] for p in range(many)]


def spans(web):
    rows = arrows(other_web(web))
    if rows is None or ring_of_four(web) is not None:
        return None
    return spans_by(len(web), rows)


def is_no_spans(web, mark, rows):
    if mark == 0:
        return len(rows) == 1 and len(rows[0]) == 4 and is_ring(web, rows[0])
    return mark == 1 and is_chain(other_web(web), rows)


def no_spans(web):
    four = ring_of_four(web)
    if four is not None:
        return (0, [four])
    across = chain(other_web(web))
    return None if across is None else (1, across)
