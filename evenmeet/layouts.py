"""Layouts: tuples (V, BLOCKS) of V points and a tuple of blocks, each a rising tuple of points."""

from evenmeet.errors import NoLayout, NoRow
from evenmeet.numbers import is_below, is_whole

MOST_POINTS = 60
MOST_BLOCKS = 200


def layout_of(points, blocks):
    if not is_points_number(points) or len(blocks) > MOST_BLOCKS:
        raise NoLayout(None)
    for place, block in enumerate(blocks):
        if not are_unlike_points(block, points):
            raise NoLayout(place)
    return (points, tuple([in_order(block) for block in blocks]))


def is_points_number(thing):
    return is_whole(thing) and 1 <= thing <= MOST_POINTS


def sorted_layout(M):
    return (M[0], tuple(sorted(M[1])))


def renamed(M, row):
    if not is_row(row, M[0]):
        raise NoRow("this is no list with each point once")
    return (M[0], tuple([block_renamed(block, row) for block in M[1]]))


def block_renamed(block, row):
    return in_order([row[point] for point in block])


def in_order(block):
    return tuple(sorted(block))


def is_row(thing, points):
    # So many unlike points are all of them.
    return isinstance(thing, list) and len(thing) == points and are_unlike_points(thing, points)


def are_unlike_points(things, points):
    # That all are points is asked first: a thing of another kind may have no hash, or be equal to a point.
    return all([is_below(thing, points) for thing in things]) and len(set(things)) == len(things)
