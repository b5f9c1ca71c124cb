"""Webs and checks for the tests, made without the program."""

import copy
import random
from itertools import combinations


def made(many, ties):
    web = [0] * many
    for a, b in ties:
        web[a] |= 1 << b
        web[b] |= 1 << a
    return web


def row(many):
    return made(many, [(p, p + 1) for p in range(many - 1)])


def ring(many):
    return made(many, [(p, (p + 1) % many) for p in range(many)])


def bare(many):
    return made(many, [])


def full(many):
    return made(many, list(combinations(range(many), 2)))


def mixed(many):
    pairs = combinations(range(many), 2)
    return made(many, [(a, b) for a, b in pairs if (a * a + 3 * b) % 5 < 2])


def small_webs(most):
    """Every web of at most so many points."""
    webs = []
    for many in range(most + 1):
        pairs = list(combinations(range(many), 2))
        for choice in range(1 << len(pairs)):
            webs.append(made(many, [pair for k, pair in enumerate(pairs) if choice >> k & 1]))
    return webs


def members(some):
    return [p for p in range(some.bit_length()) if some >> p & 1]


def is_tied(web, a, b):
    return web[a] >> b & 1 == 1


def is_whole_number(value):
    return isinstance(value, int) and not isinstance(value, bool)


def check_kept(test, function, *given):
    """What is handed in is as before."""
    before = copy.deepcopy(given)
    function(*given)
    test.assertEqual(given, before)


def check_own(test, function, *given):
    """A changed answer changes neither what was handed in nor the next answer."""
    before = copy.deepcopy(given)
    answer = function(*given)
    test.assertIs(type(answer), list)
    right = copy.deepcopy(answer)
    answer.reverse()
    answer.append(12345)
    answer[0] = 54321
    test.assertEqual(given, before)
    test.assertEqual(function(*given), right)
    other = function(*given)
    other.clear()
    test.assertEqual(given, before)
    test.assertEqual(function(*given), right)


HUGE = 10 ** 59
WIDE = 10 ** 60 - 1


def no_points(many):
    """Numbers that are no points of a web of so many."""
    return [-1, many, -2, many + 1, HUGE, -HUGE, WIDE, -WIDE]


def other(web):
    many = len(web)
    return made(many, [(a, b) for a, b in combinations(range(many), 2) if not is_tied(web, a, b)])


def apart(one, two):
    """Two webs beside each other."""
    return one + [mates << len(one) for mates in two]


def renamed(web, order):
    """The web with point p called order[p]."""
    ties = [(a, b) for a, b in combinations(range(len(web)), 2) if is_tied(web, a, b)]
    return made(len(web), [(order[a], order[b]) for a, b in ties])


def flipped(web, a, b):
    """The web with the tie of two points put in or taken out."""
    new = list(web)
    new[a] ^= 1 << b
    new[b] ^= 1 << a
    return new


def by_pairs(many, asked):
    return made(many, [(a, b) for a, b in combinations(range(many), 2) if asked(a, b)])


# Webs of one way of making each, from a fixed begin, so that they are the same each time.

def some_bare_mix(chance, many):
    share = chance.randrange(1, 10)
    return by_pairs(many, lambda a, b: chance.randrange(10) < share)


def some_sided(chance, many):
    side = [chance.randrange(2) for p in range(many)]
    return by_pairs(many, lambda a, b: side[a] != side[b] and chance.randrange(10) < 6)


def some_rounds(chance, many):
    web = []
    for p in range(many):
        mates = 0
        for q in chance.sample(range(p), chance.randrange(p + 1)):
            if mates & ~web[q] == 0:
                mates |= 1 << q
        web = [old | (1 << p if mates >> q & 1 else 0) for q, old in enumerate(web)] + [mates]
    return web


def some_split(chance, many):
    first = [chance.randrange(2) == 1 for p in range(many)]
    return by_pairs(many, lambda a, b: first[a] and first[b] or first[a] != first[b] and chance.randrange(2) == 1)


def some_steps(chance, many):
    mark = [chance.randrange(2) == 1 for p in range(many)]
    return by_pairs(many, lambda a, b: mark[max(a, b)])


def some_rows_of_joining(chance, many):
    things, rows = list(range(many)), []
    for k in range(many - 1):
        x = things.pop(chance.randrange(len(things)))
        y = things.pop(chance.randrange(len(things)))
        rows.append([chance.randrange(2), x, y])
        things.append(many + k)
    return rows


def some_joins(chance, many):
    web, things = [0] * many, [[p] for p in range(many)]
    for mark, x, y in some_rows_of_joining(chance, many):
        for a in things[x]:
            for b in things[y]:
                if mark:
                    web = flipped(web, a, b)
        things.append(things[x] + things[y])
    return web


def some_ranked(chance, many):
    place = [[chance.randrange(20) for k in range(3)] for p in range(many)]
    below = [[all(x < y for x, y in zip(one, two)) for two in place] for one in place]
    return by_pairs(many, lambda a, b: below[a][b] or below[b][a])


def some_turned(chance, many):
    order = chance.sample(range(many), many)
    return by_pairs(many, lambda a, b: order[a] > order[b])


def some_spans(chance, many):
    ends = [sorted([chance.randrange(30), chance.randrange(30)]) for p in range(many)]
    return by_pairs(many, lambda a, b: ends[a][0] <= ends[b][1] and ends[b][0] <= ends[a][1])


WAYS = [some_bare_mix, some_sided, some_rounds, some_split, some_steps, some_joins, some_ranked, some_turned,
        some_spans]


def ways_of_fourteen(several):
    """Of each way some webs of fourteen points, as made, with one tie changed, and their other webs."""
    chance, webs = random.Random(14), []
    for way in WAYS:
        for k in range(several):
            web = renamed(way(chance, 14), chance.sample(range(14), 14))
            changed = flipped(web, *chance.sample(range(14), 2))
            webs += [web, changed, other(web)]
    return webs


def plain_webs():
    """Rows and rings of each size, their other webs, and some webs of several pieces."""
    webs = [row(14), bare(14), full(14), mixed(14), other(mixed(14)), mixed(9), full(13), bare(13)]
    for many in range(3, 15):
        webs += [ring(many), other(ring(many)), row(many), other(row(many))]
    webs += [apart(ring(5), ring(9)), apart(bare(3), row(7)), apart(full(7), full(7)), apart(ring(4), ring(6))]
    return webs + [other(web) for web in webs[-4:]]


def great_webs():
    return plain_webs() + ways_of_fourteen(2)


# What the document says, told straight by its words.

def are_unlike_points(web, some):
    return all(0 <= p < len(web) for p in some) and len(set(some)) == len(some)


def are_all_tied(web, points):
    return all(is_tied(web, a, b) for a, b in combinations(points, 2))


def are_none_tied(web, points):
    return not any(is_tied(web, a, b) for a, b in combinations(points, 2))


def each_once(web, some):
    return sorted(some) == list(range(len(web)))


def right_line(web, some):
    if len(some) < 1 or not are_unlike_points(web, some):
        return False
    return all(is_tied(web, some[j], some[k]) == (k == j + 1) for j, k in combinations(range(len(some)), 2))


def right_ring(web, some):
    if len(some) < 3 or not are_unlike_points(web, some):
        return False
    last = len(some) - 1
    return all(is_tied(web, some[j], some[k]) == (k == j + 1 or (j, k) == (0, last))
               for j, k in combinations(range(len(some)), 2))


def right_sides(web, left):
    if left < 0 or left >= 2 ** len(web):
        return False
    points = members(left)
    return are_none_tied(web, points) and are_none_tied(web, [p for p in range(len(web)) if p not in points])


def right_odd_ring(web, some):
    return right_ring(web, some) and len(some) in (3, 5, 7, 9, 11, 13)


def right_taking(web, some):
    if not each_once(web, some):
        return False
    return all(are_all_tied(web, [q for q in some[k + 1:] if is_tied(web, p, q)]) for k, p in enumerate(some))


def right_chordless(web, some):
    return right_ring(web, some) and len(some) > 3


def right_steps(web, rows):
    if not all(len(told) == 2 and told[1] in (0, 1) for told in rows) or not each_once(web, [told[0] for told in rows]):
        return False
    ties = [(rows[j][0], rows[k][0]) for j, k in combinations(range(len(rows)), 2) if rows[k][1] == 1]
    return made(len(web), ties) == web


def right_no_steps(web, some):
    if len(some) != 4 or not are_unlike_points(web, some):
        return False
    a, b, c, d = some
    return is_tied(web, a, b) and is_tied(web, c, d) and not is_tied(web, a, c) and not is_tied(web, b, d)


def right_halves(web, first, second):
    if first < 0 or second < 0 or not each_once(web, members(first) + members(second)):
        return False
    return are_all_tied(web, members(first)) and are_none_tied(web, members(second))


def right_no_halves(web, some):
    if len(some) not in (4, 5) or not are_unlike_points(web, some):
        return False
    two_ties = [is_tied(web, a, b) for a, b in combinations(some, 2)] == [True, False, False, False, False, True]
    return two_ties or right_ring(web, some)


def joined_by(many, rows):
    """The web that the rows make, None where they are no rows of joining."""
    if len(rows) != max(many - 1, 0):
        return None
    things, ties = {p: [p] for p in range(many)}, []
    for k, told in enumerate(rows):
        if len(told) != 3 or told[0] not in (0, 1) or told[1] == told[2]:
            return None
        if told[1] not in things or told[2] not in things:
            return None
        x, y = things.pop(told[1]), things.pop(told[2])
        ties += [(a, b) for a in x for b in y if told[0] == 1]
        things[many + k] = x + y
    return made(many, ties)


def right_joining(web, rows):
    return joined_by(len(web), rows) == web


def right_line_of_four(web, some):
    return len(some) == 4 and right_line(web, some)


def right_forced(web, one, two):
    (a, b), (c, d) = one, two
    return a == c and d != b and not is_tied(web, d, b) or b == d and c != a and not is_tied(web, c, a)


def right_arrow(web, told):
    return len(told) == 2 and are_unlike_points(web, told) and is_tied(web, told[0], told[1])


def right_arrows(web, rows):
    if not all(right_arrow(web, told) for told in rows):
        return False
    for a, b in combinations(range(len(web)), 2):
        if rows.count([a, b]) + rows.count([b, a]) != (1 if is_tied(web, a, b) else 0):
            return False
    return all([one[0], two[1]] in rows for one in rows for two in rows if one[1] == two[0])


def right_chain(web, rows):
    if len(rows) < 2 or not all(right_arrow(web, told) for told in rows) or rows[-1] != rows[0][::-1]:
        return False
    return all(right_forced(web, one, two) for one, two in zip(rows, rows[1:]))


def some_order(web, chance):
    """An order of taking in which each point is any one of those that may be taken."""
    order, left = [], list(range(len(web)))
    while left:
        free = [p for p in left if are_all_tied(web, [q for q in left if is_tied(web, p, q)])]
        order.append(chance.choice(free))
        left.remove(order[-1])
    return order


def arrows_in(web):
    return [[a, b] for a in range(len(web)) for b in members(web[a])]


def right_turning(web, one, two):
    if not each_once(web, one) or not each_once(web, two):
        return False
    return all(is_tied(web, a, b) == ((one.index(a) < one.index(b)) != (two.index(a) < two.index(b)))
               for a, b in combinations(range(len(web)), 2))


def right_no_turning(web, mark, rows):
    return mark == 0 and right_chain(web, rows) or mark == 1 and right_chain(other(web), rows)


def right_spans(web, rows):
    if len(rows) != len(web) or not all(len(told) == 2 and told[0] <= told[1] for told in rows):
        return False
    return all(is_tied(web, a, b) == (not rows[a][1] < rows[b][0] and not rows[b][1] < rows[a][0])
               for a, b in combinations(range(len(web)), 2))


def right_no_spans(web, mark, rows):
    if mark == 0:
        return len(rows) == 1 and len(rows[0]) == 4 and right_ring(web, rows[0])
    return mark == 1 and right_chain(other(web), rows)


def is_way_past(web, a, b, third):
    """Whether one comes from a to b by points that are neither the third one nor mates of it."""
    free = [p for p in range(len(web)) if p != third and not is_tied(web, p, third)]
    seen = [a] if a in free else []
    for p in seen:
        seen += [q for q in free if is_tied(web, p, q) and q not in seen]
    return b in seen


def right_triple(web, some):
    if len(some) != 3 or not are_unlike_points(web, some):
        return False
    a, b, c = some
    return is_way_past(web, a, b, c) and is_way_past(web, a, c, b) and is_way_past(web, b, c, a)


def part_all(web, rows):
    return len(rows) == 2 and each_once(web, rows[0] + rows[1])


RIGHT_MAKES = {
    "sided": lambda web, rows: part_all(web, rows) and are_none_tied(web, rows[0]) and are_none_tied(web, rows[1]),
    "rounds": lambda web, rows: len(rows) == 1 and right_taking(web, rows[0]),
    "split": lambda web, rows: part_all(web, rows) and are_all_tied(web, rows[0]) and are_none_tied(web, rows[1]),
    "steps": right_steps,
    "joins": right_joining,
    "ranked": right_arrows,
    "turned": lambda web, rows: len(rows) == 2 and right_turning(web, rows[0], rows[1]),
    "spans": right_spans,
}

RIGHT_BARS = {
    "sided": lambda web, rows: len(rows) == 1 and right_odd_ring(web, rows[0]),
    "rounds": lambda web, rows: len(rows) == 1 and right_chordless(web, rows[0]),
    "split": lambda web, rows: len(rows) == 1 and right_no_halves(web, rows[0]),
    "steps": lambda web, rows: len(rows) == 1 and right_no_steps(web, rows[0]),
    "joins": lambda web, rows: len(rows) == 1 and right_line_of_four(web, rows[0]),
    "ranked": right_chain,
    "turned": lambda web, rows: has_mark(rows) and right_no_turning(web, rows[0][0], rows[1:]),
    "spans": lambda web, rows: has_mark(rows) and right_no_spans(web, rows[0][0], rows[1:]),
}


def has_mark(rows):
    return len(rows) > 0 and len(rows[0]) == 1


def right_paper(word, web, paper):
    return RIGHT_MAKES[word](web, paper[1]) if paper[0] else RIGHT_BARS[word](web, paper[1])


def check_best(test, web, best):
    """The best is told as the document says."""
    test.assertIs(type(best), tuple)
    clique, colours, loose, covers = best
    check_numbers(test, [clique, loose])
    test.assertTrue(0 <= clique < 2 ** len(web) and 0 <= loose < 2 ** len(web))
    test.assertTrue(are_all_tied(web, members(clique)), (web, best))
    test.assertTrue(are_none_tied(web, members(loose)), (web, best))
    for several, asked, size in [(colours, are_none_tied, clique), (covers, are_all_tied, loose)]:
        check_numbers(test, several)
        test.assertTrue(all(some > 0 for some in several), (web, best))
        test.assertTrue(each_once(web, [p for some in several for p in members(some)]), (web, best))
        test.assertTrue(all(asked(web, members(some)) for some in several), (web, best))
        test.assertEqual(len(several), len(members(size)), (web, best))


def spoil(value):
    """Every list within is made another one."""
    if isinstance(value, tuple):
        for thing in value:
            spoil(thing)
    if isinstance(value, list):
        for thing in value:
            spoil(thing)
        value.reverse()
        value.append(12345)
        value[0] = 54321


def check_free(test, function, *given):
    """What is handed in is as before, and an answer changed within changes neither it nor the next answer."""
    before = copy.deepcopy(given)
    answer = function(*given)
    right = copy.deepcopy(answer)
    test.assertEqual(given, before)
    spoil(answer)
    test.assertEqual(given, before)
    test.assertEqual(function(*given), right)
    test.assertEqual(given, before)


def check_agrees(test, asked, right, *given):
    """A question is answered with True or False as the document says, and what is handed in is as before."""
    before = repr(given)
    test.assertIs(asked(*given), right(*given), given)
    test.assertEqual(repr(given), before)


def check_one_is_none(test, one, two, web):
    test.assertNotEqual(one is None, two is None, (web, one, two))


def check_numbers(test, some):
    test.assertIs(type(some), list)
    for number in some:
        test.assertTrue(is_whole_number(number), some)


def check_rows(test, rows):
    test.assertIs(type(rows), list)
    for told in rows:
        check_numbers(test, told)


def near_lists(some, many):
    """A list and others that differ from it by little, numbers that are no points among theirs."""
    found = [[], list(some), some[::-1], some + some, some[1:] + some[:1], some[1:], some[:-1]]
    for number in no_points(many) + [0, many - 1]:
        found += [some + [number], [number] + some, [number]]
    for k in range(len(some)):
        found += [some[:k] + some[k + 1:], some[:k] + some[k:k + 1] + some[k:]]
        found += [some[:k] + [number] + some[k + 1:] for number in no_points(many) + some[:1]]
    for j, k in combinations(range(len(some)), 2):
        changed = list(some)
        changed[j], changed[k] = changed[k], changed[j]
        found.append(changed)
    return found


def near_rows(rows, many):
    """Rows and others that differ from them by little."""
    found = [[], [[]], copy.deepcopy(rows), rows[::-1], rows + rows, rows[1:] + rows[:1]]
    extra = [[], [0], [0, 0], [0, 1], [1, 0], [0, 1, 2], [many - 1, many], [-1, -1], [HUGE, -WIDE], [2], [WIDE]]
    found += [rows + [one] for one in extra] + [[one] + rows for one in extra]
    numbers = [0, 1, 2, many - 1, many, -1, HUGE, -HUGE, WIDE, -WIDE]
    for k, told in enumerate(rows):
        changes = [told[::-1], [], told[1:], told[:-1], told + [0], told + told, [1] + told]
        changes += [told[:j] + [number] + told[j + 1:] for j in range(len(told)) for number in numbers]
        changes += [told[:j] + [told[j] + step] + told[j + 1:] for j in range(len(told)) for step in (1, -1)]
        found += [rows[:k] + [change] + rows[k + 1:] for change in changes]
        found += [rows[:k] + rows[k + 1:], rows[:k + 1] + rows[k:]]
        found += [rows[:j] + [told] + rows[j + 1:k] + [rows[j]] + rows[k + 1:] for j in range(k)]
    return found
