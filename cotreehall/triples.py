"""Three points that go round one another."""

from cotreehall.sets import alone, lies_in, set_of, without
from cotreehall.shapes import are_points, pairs_of
from cotreehall.walks import pieces
from cotreehall.webs import whole_of


def pieces_away(web, p):
    """The pieces of what is left without the point and its mates."""
    return pieces(web, without(whole_of(web), web[p] | alone(p)))


def are_in_one(several, a, b):
    return any([lies_in(set_of([a, b]), some) for some in several])


def go_round(away, a, b, c):
    """Whether three points go round one another, from the pieces away from each point."""
    return are_in_one(away[a], b, c) and are_in_one(away[b], a, c) and are_in_one(away[c], a, b)


def is_triple(web, some):
    if len(some) != 3 or not are_points(web, some):
        return False
    away = [pieces_away(web, p) for p in range(len(web))]
    return go_round(away, some[0], some[1], some[2])


def triple(web):
    away = [pieces_away(web, p) for p in range(len(web))]
    for a, b in pairs_of(len(web)):
        for c in range(b + 1, len(web)):
            if go_round(away, a, b, c):
                return [a, b, c]
    return None
