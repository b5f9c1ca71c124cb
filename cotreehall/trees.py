"""Webs of rounds as stretches of a tree of knots."""

from cotreehall.rounds import bunches
from cotreehall.sets import points_of, size_of
from cotreehall.webs import whole_of


def mates_in_common(web, some):
    common = whole_of(web)
    for p in points_of(some):
        common = common & web[p]
    return common


def knots_of(web, order):
    # A knot is the bunch of that point of it which is taken first.
    return [bunch for bunch in bunches(web, order) if mates_in_common(web, bunch) == 0]


def links_of(knots):
    # A tree of knots whose linked knots have the most points in common over
    # all is one in which the knots of each point hang together.
    links = []
    inside = [0]
    outside = list(range(1, len(knots)))
    while len(outside) > 0:
        choices = []
        for i in inside:
            choices.extend([(i, j) for j in outside])
        link = max(choices, key=lambda choice: size_of(knots[choice[0]] & knots[choice[1]]))
        links.append((min(link), max(link)))
        inside.append(link[1])
        outside.remove(link[1])
    return links


def stretches(web, order):
    knots = knots_of(web, order)
    return (knots, links_of(knots))
