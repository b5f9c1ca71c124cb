"""Arrows of a web, what they force, and ranked webs."""

from cotreehall.sets import alone, lies_in, points_of, set_of, without
from cotreehall.shapes import are_points
from cotreehall.webs import tied, ties_of


def are_apart(web, a, b):
    return a != b and not tied(web, a, b)


def forced(web, one, other):
    if one[0] == other[0] and are_apart(web, one[1], other[1]):
        return True
    return one[1] == other[1] and are_apart(web, one[0], other[0])


def is_arrow(web, row):
    return len(row) == 2 and are_points(web, row) and tied(web, row[0], row[1])


def is_chain(web, rows):
    if len(rows) < 2 or not all([is_arrow(web, row) for row in rows]):
        return False
    if [rows[-1][1], rows[-1][0]] != rows[0]:
        return False
    return all([forced(web, rows[k], rows[k + 1]) for k in range(len(rows) - 1)])


def ends_from(many, rows):
    """For each point the set of those to which an arrow goes from it."""
    return [set_of([b for a, b in rows if a == p]) for p in range(many)]


def is_arrows(web, rows):
    if not all([len(row) == 2 for row in rows]):
        return False
    if sorted([(min(row), max(row)) for row in rows]) != ties_of(web):
        return False
    ends = ends_from(len(web), rows)
    return all([lies_in(ends[b], ends[a]) for a, b in rows])


def forced_by(web, arrow):
    a = arrow[0]
    b = arrow[1]
    begun_there = [(a, c) for c in points_of(without(web[a], web[b] | alone(b)))]
    ended_there = [(c, b) for c in points_of(without(web[b], web[a] | alone(a)))]
    return begun_there + ended_there


def spread(web, start):
    """All arrows that are forced in whatever many steps, each with the one that forces it."""
    forcers = {start: None}
    waiting = [start]
    while len(waiting) > 0:
        arrow = waiting.pop(0)
        fresh = [new for new in forced_by(web, arrow) if new not in forcers]
        for new in fresh:
            forcers[new] = arrow
        waiting.extend(fresh)
    return forcers


def chain_to(forcers, arrow):
    rows = []
    while arrow is not None:
        rows.append(list(arrow))
        arrow = forcers[arrow]
    return list(reversed(rows))


def chain(web):
    # Forcing goes both ways, and turned round too: if one arrow of a spread
    # comes to itself turned round, each of them does.
    seen = {}
    for a, b in ties_of(web):
        if (a, b) not in seen and (b, a) not in seen:
            forcers = spread(web, (a, b))
            if (b, a) in forcers:
                return chain_to(forcers, (b, a))
            seen.update(forcers)
    return None


def untied(web, pairs):
    rest = list(web)
    for a, b in pairs:
        rest[a] = without(rest[a], alone(b))
        rest[b] = without(rest[b], alone(a))
    return rest


def arrows(web):
    # What one choice forces is taken out ahead of the next choice, and the
    # next one forces in the rest alone: only so the arrows carry.
    if chain(web) is not None:
        return None
    rows = []
    rest = web
    for a, b in ties_of(web):
        if tied(rest, a, b):
            chosen = list(spread(rest, (a, b)))
            rows.extend([list(arrow) for arrow in chosen])
            rest = untied(rest, chosen)
    return rows
