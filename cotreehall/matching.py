"""Matchings: numbers with points of their sets, no point for two."""

from cotreehall.sets import has, lies_in, points_of, set_of, together


def matched_with(partners, p):
    return [k for k in range(len(partners)) if partners[k] == p]


def comes_from(rows, partners, start):
    """For each point to which one comes from this number, by turns, the number right ahead of it."""
    comes = {}
    waiting = [start]
    while len(waiting) > 0:
        k = waiting.pop(0)
        for p in points_of(rows[k]):
            if p not in comes:
                comes[p] = k
                waiting.extend(matched_with(partners, p))
    return comes


def exchanged(partners, comes, p):
    """The partners when the number ahead of the point gets it, and gives up its own to the one ahead."""
    new = list(partners)
    while p != -1:
        k = comes[p]
        given_up = new[k]
        new[k] = p
        p = given_up
    return new


def matched(rows):
    # A number that can't be matched when its turn comes can't be matched later
    # either without giving up another one.
    partners = [-1] * len(rows)
    for k in range(len(rows)):
        comes = comes_from(rows, partners, k)
        free = [p for p in comes if p not in partners]
        if len(free) > 0:
            partners = exchanged(partners, comes, free[0])
    return partners


def points_from(rows, numbers):
    return together([rows[k] for k in points_of(numbers)])


def numbers_back(partners, points):
    return set_of([k for k in range(len(partners)) if has(points, partners[k])])


def reached(rows, partners):
    numbers = set_of(matched_with(partners, -1))
    points = points_from(rows, numbers)
    back = numbers_back(partners, points)
    while not lies_in(back, numbers):
        numbers = numbers | back
        points = points_from(rows, numbers)
        back = numbers_back(partners, points)
    return (numbers, points)
