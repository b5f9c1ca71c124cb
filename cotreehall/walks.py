"""Walks in a web that keep within a set of its points."""

from cotreehall.sets import alone, first_of, has, points_of, together, without


def mates_of_all(web, some):
    return together([web[p] for p in points_of(some)])


def layers(web, start, within):
    found = []
    here = alone(start)
    left = without(within, here)
    while here != 0:
        found.append(here)
        here = mates_of_all(web, here) & left
        left = without(left, here)
    return found


def reach(web, start, within):
    return together(layers(web, start, within))


def pieces(web, within):
    found = []
    left = within
    while left != 0:
        piece = reach(web, first_of(left), left)
        found.append(piece)
        left = without(left, piece)
    return found


def way(web, start, goal, within):
    # The layers are those of the goal, so that each point from the start on
    # has a mate that is one layer nearer to it.
    near = layers(web, goal, within)
    places = [k for k in range(len(near)) if has(near[k], start)]
    if len(places) == 0:
        return None
    points = [start]
    for layer in reversed(near[:places[0]]):
        points.append(first_of(web[points[-1]] & layer))
    return points
