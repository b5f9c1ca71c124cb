"""Split webs: one set all tied, the rest none tied."""

from cotreehall.rounds import chordless
from cotreehall.sets import first_of, points_of, set_of, size_of, without
from cotreehall.shapes import are_points, is_ring
from cotreehall.webs import all_tied, none_tied, part, ties_of, whole_of


def is_halves(web, first, second):
    if first & second != 0 or first | second != whole_of(web):
        return False
    return all_tied(web, first) and none_tied(web, second)


def halves(web):
    # Where a web is split, the points with the most mates can be the first set.
    falling = sorted(range(len(web)), key=lambda p: -size_of(web[p]))
    for k in range(len(web) + 1):
        first = set_of(falling[:k])
        second = set_of(falling[k:])
        if is_halves(web, first, second):
            return (first, second)
    return None


def is_two_ties(web, some):
    if len(some) != 4 or not are_points(web, some):
        return False
    return ties_of(part(web, some)) == [(0, 1), (2, 3)]


def two_ties(web):
    """Four points with two ties that have nothing to do with one another, or None."""
    for a, b in ties_of(web):
        away = without(whole_of(web), web[a] | web[b])
        for c in points_of(away):
            if web[c] & away != 0:
                return [a, b, c, first_of(web[c] & away)]
    return None


def is_no_halves(web, some):
    return is_two_ties(web, some) or (len(some) in (4, 5) and is_ring(web, some))


def no_halves(web):
    # Rings of six points or more have two such ties, so a ring that is found
    # where there are none has four points or five.
    four = two_ties(web)
    return chordless(web) if four is None else four
