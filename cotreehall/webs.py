"""Webs, told as lists of sets: the a-th one is the set of the mates of point a."""

from cotreehall.errors import NoTie, NoWeb
from cotreehall.sets import alone, has, lies_in, points_of, set_of, without

MOST = 14


def refuse_size(many):
    if many < 0 or many > MOST:
        raise NoWeb(f"a web has 0 to {MOST} points, not {many}")


def refuse_tie(many, a, b):
    if min(a, b) < 0 or max(a, b) >= many:
        raise NoTie(f"one of {a} and {b} is no point of a web of {many}")
    if a == b:
        raise NoTie(f"point {a} can't be tied to itself")


def web_of(many, ties):
    refuse_size(many)
    web = [0] * many
    for a, b in ties:
        refuse_tie(many, a, b)
        web[a] = web[a] | alone(b)
        web[b] = web[b] | alone(a)
    return web


def tied(web, a, b):
    return has(web[a], b)


def ties_of(web):
    ties = []
    for a in range(len(web)):
        ties.extend([(a, b) for b in points_of(web[a]) if a < b])
    return ties


def whole_of(web):
    return alone(len(web)) - 1


def other_web(web):
    whole = whole_of(web)
    return [without(whole, web[a] | alone(a)) for a in range(len(web))]


def places_of_mates(web, points, p):
    return set_of([k for k in range(len(points)) if tied(web, p, points[k])])


def part(web, points):
    return [places_of_mates(web, points, p) for p in points]


def beside(one, two):
    refuse_size(len(one) + len(two))
    return one + [mates << len(one) for mates in two]


def joined(one, two):
    # Ties and their lack change places in the other web, so that what lies
    # beside each other there is joined here.
    return other_web(beside(other_web(one), other_web(two)))


def all_tied(web, some):
    return all([lies_in(some, web[p] | alone(p)) for p in points_of(some)])


def none_tied(web, some):
    return all([web[p] & some == 0 for p in points_of(some)])
