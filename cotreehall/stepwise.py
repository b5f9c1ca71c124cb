"""Webs made by steps: each point tied to none or to all of those that are there."""

from cotreehall.sets import alone, first_of, lies_in, points_of, set_of, without
from cotreehall.shapes import are_all_points, are_points, pairs_of
from cotreehall.webs import tied, whole_of


def is_put_in(web, row, ahead):
    return web[row[0]] & ahead == (ahead if row[1] == 1 else 0)


def are_rows_of_steps(web, rows):
    if not all([len(row) == 2 for row in rows]):
        return False
    return are_all_points(web, [row[0] for row in rows]) and all([row[1] in (0, 1) for row in rows])


def is_steps(web, rows):
    if not are_rows_of_steps(web, rows):
        return False
    points = [row[0] for row in rows]
    return all([is_put_in(web, rows[k], set_of(points[:k])) for k in range(len(rows))])


def last_row(web, left):
    """The row of a point of the set that may be put in behind the others, or None."""
    for p in points_of(left):
        others = without(left, alone(p))
        if web[p] & others == 0:
            return [p, 0]
        if lies_in(others, web[p]):
            return [p, 1]
    return None


def steps(web):
    rows = []
    left = whole_of(web)
    while left != 0:
        row = last_row(web, left)
        if row is None:
            return None
        rows.append(row)
        left = without(left, alone(row[0]))
    return list(reversed(rows))


def is_no_steps(web, some):
    if len(some) != 4 or not are_points(web, some):
        return False
    there = tied(web, some[0], some[1]) and tied(web, some[2], some[3])
    return there and not tied(web, some[0], some[2]) and not tied(web, some[1], some[3])


def no_steps(web):
    # A web is made by steps just where of each two points the one has all
    # mates that the other has.
    for a, d in pairs_of(len(web)):
        of_a = without(web[a], web[d] | alone(d))
        of_d = without(web[d], web[a] | alone(a))
        if of_a != 0 and of_d != 0:
            return [a, first_of(of_a), first_of(of_d), d]
    return None
