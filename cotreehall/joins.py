"""Webs of joins: made of single points by putting beside and joining."""

from cotreehall.sets import alone, first_of, has, points_of, without
from cotreehall.shapes import is_line, pairs_of
from cotreehall.webs import tied, ties_of, whole_of


def joined_between(web, one, two):
    """The web with each point of the one set tied to each of the other."""
    return [web[p] | (two if has(one, p) else 0) | (one if has(two, p) else 0) for p in range(len(web))]


def web_of_joining(many, rows):
    web = [0] * many
    things = [alone(p) for p in range(many)]
    for mark, x, y in rows:
        if mark == 1:
            web = joined_between(web, things[x], things[y])
        things.append(things[x] | things[y])
    return web


def names_two(row, made, named):
    """Whether the row puts two of so many made things together that are not named yet."""
    if len(row) != 3 or row[0] not in (0, 1) or row[1] == row[2]:
        return False
    return all([0 <= x < made and x not in named for x in row[1:]])


def are_rows_of_joining(many, rows):
    if len(rows) != max(many - 1, 0):
        return False
    named = []
    for k in range(len(rows)):
        if not names_two(rows[k], many + k, named):
            return False
        named.extend(rows[k][1:])
    return True


def is_joining(web, rows):
    return are_rows_of_joining(len(web), rows) and web_of_joining(len(web), rows) == web


def are_twins(web, a, b, left):
    others = without(left, alone(a) | alone(b))
    return web[a] & others == web[b] & others


def twins_in(web, left):
    """Two points of the set with the same mates among its others, or None."""
    points = points_of(left)
    for j, k in pairs_of(len(points)):
        if are_twins(web, points[j], points[k], left):
            return (points[j], points[k])
    return None


def joining(web):
    # One of two twins stands for both from then on, since the others are tied
    # to both or to neither.
    rows = []
    things = list(range(len(web)))
    left = whole_of(web)
    for k in range(len(web), 2 * len(web) - 1):
        twins = twins_in(web, left)
        if twins is None:
            return None
        kept = twins[0]
        gone = twins[1]
        rows.append([1 if tied(web, kept, gone) else 0, things[kept], things[gone]])
        things[kept] = k
        left = without(left, alone(gone))
    return rows


def is_line_of_four(web, some):
    return len(some) == 4 and is_line(web, some)


def line_over(web, b, c):
    """A line of four points whose midmost two are b and c, or None."""
    ends = without(web[c], web[b] | alone(b))
    for a in points_of(without(web[b], web[c] | alone(c))):
        free = without(ends, web[a])
        if free != 0:
            return [a, b, c, first_of(free)]
    return None


def line_of_four(web):
    for b, c in ties_of(web):
        found = line_over(web, b, c)
        if found is not None:
            return found
    return None
