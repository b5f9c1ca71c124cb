"""Webs whose points can be parted in two sides without ties."""

from cotreehall.sets import first_of, lies_in, points_of, together, without
from cotreehall.shapes import is_ring
from cotreehall.walks import layers, pieces, way
from cotreehall.webs import none_tied, whole_of


def is_sides(web, left):
    whole = whole_of(web)
    if left < 0 or not lies_in(left, whole):
        return False
    return none_tied(web, left) and none_tied(web, without(whole, left))


def left_of_piece(web, piece):
    # Tied points lie at unlike sides, so the sides change from layer to layer.
    return together(layers(web, first_of(piece), piece)[0::2])


def sides(web):
    left = together([left_of_piece(web, piece) for piece in pieces(web, whole_of(web))])
    return left if is_sides(web, left) else None


def is_odd_ring(web, some):
    return is_ring(web, some) and len(some) % 2 == 1


def round_by(web, start, a, b):
    whole = whole_of(web)
    return way(web, start, a, whole) + way(web, b, start, whole)[:-1]


def odd_round(web, start):
    for layer in layers(web, start, whole_of(web)):
        for a in points_of(layer):
            across = web[a] & layer
            if across != 0:
                return round_by(web, start, a, first_of(across))
    return None


def odd_ring(web):
    # A tie across or a point met twice would part off a shorter odd round, so
    # the shortest of all has neither.
    found = [odd_round(web, p) for p in range(len(web))]
    return min([some for some in found if some is not None], key=len, default=None)
