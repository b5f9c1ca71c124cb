"""Webs and checks for the tests, made without the program."""

import copy
from itertools import combinations


def made(many, ties):
    web = [0] * many
    for a, b in ties:
        web[a] |= 1 << b
        web[b] |= 1 << a
    return web


def row(many):
    return made(many, [(p, p + 1) for p in range(many - 1)])


def ring(many):
    return made(many, [(p, (p + 1) % many) for p in range(many)])


def bare(many):
    return made(many, [])


def full(many):
    return made(many, list(combinations(range(many), 2)))


def mixed(many):
    pairs = combinations(range(many), 2)
    return made(many, [(a, b) for a, b in pairs if (a * a + 3 * b) % 5 < 2])


def small_webs(most):
    """Every web of at most so many points."""
    webs = []
    for many in range(most + 1):
        pairs = list(combinations(range(many), 2))
        for choice in range(1 << len(pairs)):
            webs.append(made(many, [pair for k, pair in enumerate(pairs) if choice >> k & 1]))
    return webs


def members(some):
    return [p for p in range(some.bit_length()) if some >> p & 1]


def is_tied(web, a, b):
    return web[a] >> b & 1 == 1


def is_whole_number(value):
    return isinstance(value, int) and not isinstance(value, bool)


def check_kept(test, function, *given):
    """What is handed in is as before."""
    before = copy.deepcopy(given)
    function(*given)
    test.assertEqual(given, before)


def check_own(test, function, *given):
    """A changed answer changes neither what was handed in nor the next answer."""
    before = copy.deepcopy(given)
    answer = function(*given)
    test.assertIs(type(answer), list)
    right = copy.deepcopy(answer)
    answer.reverse()
    answer.append(12345)
    answer[0] = 54321
    test.assertEqual(given, before)
    test.assertEqual(function(*given), right)
    other = function(*given)
    other.clear()
    test.assertEqual(given, before)
    test.assertEqual(function(*given), right)
