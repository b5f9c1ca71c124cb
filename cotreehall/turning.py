"""Turned webs: two orders, and ties where they tell unlike things."""

from cotreehall.forcing import arrows, chain, is_chain
from cotreehall.shapes import are_all_points, pairs_of
from cotreehall.webs import other_web, tied


def is_turning(web, one, two):
    if not are_all_points(web, one) or not are_all_points(web, two):
        return False
    places = [two.index(p) for p in one]
    return all([tied(web, one[j], one[k]) == (places[j] > places[k]) for j, k in pairs_of(len(web))])


def order_by(many, rows):
    """The points by how many arrows end at them."""
    ends = [b for a, b in rows]
    return sorted(range(many), key=lambda p: ends.count(p))


def turning(web):
    # Carrying arrows of a web and of its other one make an order together,
    # and so they do when those of the one are turned round.
    own = arrows(web)
    across = arrows(other_web(web))
    if own is None or across is None:
        return None
    back = [[b, a] for a, b in own]
    return (order_by(len(web), own + across), order_by(len(web), back + across))


def is_no_turning(web, mark, rows):
    if mark == 0:
        return is_chain(web, rows)
    return mark == 1 and is_chain(other_web(web), rows)


def no_turning(web):
    own = chain(web)
    if own is not None:
        return (0, own)
    across = chain(other_web(web))
    return None if across is None else (1, across)
