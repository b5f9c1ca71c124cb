"""Sets of points, told as whole numbers: point p is worth 2 taken p times with itself."""

from cotreehall.errors import NoPoint


def has(some, p):
    # A number below 0 is no place of the set, and Python won't shift by it.
    return p >= 0 and (some >> p) & 1 == 1


def alone(p):
    return 1 << p


def together(several):
    whole = 0
    for some in several:
        whole = whole | some
    return whole


def set_of(points):
    return together([alone(p) for p in points])


def points_of(some):
    return [p for p in range(some.bit_length()) if has(some, p)]


def size_of(some):
    return len(points_of(some))


def first_of(some):
    if some == 0:
        raise NoPoint("the empty set has no first point")
    return points_of(some)[0]


def without(some, other):
    return some & ~other


def lies_in(some, other):
    return without(some, other) == 0
