"""Changes: the complement and the dual of a layout, and its parts at and off a point or a block."""

from evenmeet.errors import NoDual, NoPart
from evenmeet.layouts import MOST_POINTS
from evenmeet.numbers import is_below


def complement(M):
    return (M[0], tuple([tuple(points_off(M[0], block)) for block in M[1]]))


def dual(M):
    if len(M[1]) < 1 or len(M[1]) > MOST_POINTS:
        raise NoDual("the dual would have no points, or too many")
    return (len(M[1]), tuple([numbers_of_blocks_with(M, point) for point in range(M[0])]))


def numbers_of_blocks_with(M, point):
    return tuple([number for number, block in enumerate(M[1]) if point in block])


def at_point(M, p):
    must_be_below(p, M[0])
    return narrowed([block for block in M[1] if p in block], points_off(M[0], (p,)))


def off_point(M, p):
    must_be_below(p, M[0])
    return narrowed([block for block in M[1] if p not in block], points_off(M[0], (p,)))


def at_block(M, b):
    must_be_below(b, len(M[1]))
    return narrowed(blocks_but(M, b), M[1][b])


def off_block(M, b):
    must_be_below(b, len(M[1]))
    return narrowed(blocks_but(M, b), points_off(M[0], M[1][b]))


def must_be_below(thing, many):
    if not is_below(thing, many):
        raise NoPart("there is no point or block of this number")


def points_off(points, block):
    return [point for point in range(points) if point not in block]


def blocks_but(M, b):
    # By number, not by points: a block that is alike stays.
    return M[1][:b] + M[1][b + 1:]


def narrowed(blocks, left):
    if len(left) == 0:
        raise NoPart("no point would be left")
    places = {}
    for place, point in enumerate(left):
        places[point] = place
    return (len(left), tuple([block_narrowed(block, places) for block in blocks]))


def block_narrowed(block, places):
    # The points left are rising, so their places are, too.
    return tuple([places[point] for point in block if point in places])
