"""Webs of rounds: orders of taking, and rings of four points or more."""

from cotreehall.sets import alone, points_of, set_of, without
from cotreehall.shapes import are_all_points, is_ring
from cotreehall.walks import way
from cotreehall.webs import all_tied, whole_of


def bunches(web, order):
    """For each place of the order the set of its point and of the mates behind it."""
    return [alone(order[k]) | (web[order[k]] & set_of(order[k + 1:])) for k in range(len(order))]


def is_taking(web, some):
    if not are_all_points(web, some):
        return False
    return all([all_tied(web, bunch) for bunch in bunches(web, some)])


def taking(web):
    # Whichever point can be taken may be taken: the points left of an order
    # of taking are still in one.
    order = []
    left = whole_of(web)
    while left != 0:
        free = [p for p in points_of(left) if all_tied(web, web[p] & left)]
        if len(free) == 0:
            return None
        order.append(free[0])
        left = without(left, alone(free[0]))
    return order


def is_chordless(web, some):
    return is_ring(web, some) and len(some) >= 4


def ring_by(web, p, a):
    """A ring from p by its mate a to another mate that is not tied to a, or None."""
    away = without(whole_of(web), web[p] | alone(p))
    for b in points_of(without(web[p], web[a] | alone(a))):
        # A way with as few points as can be has no ties across.
        found = way(web, a, b, away | alone(a) | alone(b))
        if found is not None:
            return [p] + found
    return None


def chordless(web):
    for p in range(len(web)):
        for a in points_of(web[p]):
            found = ring_by(web, p, a)
            if found is not None:
                return found
    return None
