"""The best of a web: greatest sets all tied or none tied, with as many sets that part the web."""

from cotreehall.forcing import ends_from
from cotreehall.matching import matched, reached
from cotreehall.rounds import bunches
from cotreehall.sets import alone, first_of, has, points_of, set_of, size_of, without
from cotreehall.webs import whole_of


def with_point(web, colours, p):
    """The colours with the point put in, into one of its own where its mates are in all of them."""
    free = [k for k in range(len(colours)) if colours[k] & web[p] == 0]
    if len(free) == 0:
        return colours + [alone(p)]
    k = free[0]
    return colours[:k] + [colours[k] | alone(p)] + colours[k + 1:]


def colours_by_order(web, order):
    # From the end on a point's mates that have a colour are all tied, so that
    # there are never more colours than points all tied.
    colours = []
    for p in reversed(order):
        colours = with_point(web, colours, p)
    return colours


def best_by_order(web, order):
    around = bunches(web, order)
    loose = 0
    covers = []
    left = whole_of(web)
    for p, bunch in zip(order, around):
        if has(left, p):
            loose = loose | alone(p)
            covers.append(bunch & left)
            left = without(left, bunch)
    clique = max(around, key=size_of, default=0)
    return (clique, colours_by_order(web, order), loose, covers)


def blended(some, other):
    """Two lists of sets, the k-th of the one with the k-th of the other."""
    both = [one | two for one, two in zip(some, other)]
    return both + some[len(both):] + other[len(both):]


def best_beside(one, two):
    return (max(one[0], two[0], key=size_of), blended(one[1], two[1]), one[2] | two[2], one[3] + two[3])


def best_of_other(best):
    return (best[2], best[3], best[0], best[1])


def best_joined(one, two):
    # What lies beside each other in the other web is joined here.
    return best_of_other(best_beside(best_of_other(one), best_of_other(two)))


def best_by_joining(web, rows):
    things = [(alone(p), [alone(p)], alone(p), [alone(p)]) for p in range(len(web))]
    for mark, x, y in rows:
        if mark == 1:
            things.append(best_joined(things[x], things[y]))
        else:
            things.append(best_beside(things[x], things[y]))
    return things[-1] if len(things) > 0 else (0, [], 0, [])


def free_of(begins, left):
    """The points of the set at which no arrow ends that begins in it."""
    return set_of([p for p in points_of(left) if begins[p] & left == 0])


def levels_of(begins, whole):
    levels = []
    left = whole
    level = free_of(begins, left)
    while level != 0:
        levels.append(level)
        left = without(left, level)
        level = free_of(begins, left)
    return levels


def down_levels(begins, levels, whole):
    """A point of each level, from each an arrow to those of the levels above."""
    found = 0
    below = whole
    for level in reversed(levels):
        p = first_of(level & below)
        found = found | alone(p)
        below = begins[p]
    return found


def covers_by(partners):
    """The sets of points that hang together where each one's partner is the next one."""
    covers = []
    for start in range(len(partners)):
        if start not in partners:
            cover = 0
            p = start
            while p != -1:
                cover = cover | alone(p)
                p = partners[p]
            covers.append(cover)
    return covers


def best_by_arrows(web, rows):
    ends = ends_from(len(web), rows)
    begins = ends_from(len(web), [[b, a] for a, b in rows])
    levels = levels_of(begins, whole_of(web))
    partners = matched(ends)
    come_to = reached(ends, partners)
    loose = without(come_to[0], come_to[1])
    return (down_levels(begins, levels, whole_of(web)), levels, loose, covers_by(partners))


def best_by_sides(web, left):
    rows = []
    for a in points_of(left):
        rows.extend([[a, b] for b in points_of(web[a])])
    return best_by_arrows(web, rows)
