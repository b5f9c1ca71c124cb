"""Lists of points of a web: lines and rings."""

from cotreehall.webs import part, ties_of


def are_points(web, some):
    inside = all([0 <= p < len(web) for p in some])
    return inside and len(set(some)) == len(some)


def are_all_points(web, some):
    return sorted(some) == list(range(len(web)))


def pairs_of(many):
    pairs = []
    for a in range(many):
        pairs.extend([(a, b) for b in range(a + 1, many)])
    return pairs


def neighbours(many):
    return [(k, k + 1) for k in range(many - 1)]


def is_line(web, some):
    if len(some) == 0 or not are_points(web, some):
        return False
    return ties_of(part(web, some)) == neighbours(len(some))


def is_ring(web, some):
    if len(some) < 3 or not are_points(web, some):
        return False
    around = neighbours(len(some)) + [(0, len(some) - 1)]
    return ties_of(part(web, some)) == sorted(around)
