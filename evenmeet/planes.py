"""Planes: the plane and the flat plane of a field, and whether a layout is a plane."""

from evenmeet.changes import numbers_of_blocks_with


def plane_of(field):
    triples = triples_of(field.size())
    blocks = [points_across(field, triple, triples) for triple in triples]
    return (len(triples), tuple(blocks))


def triples_of(size):
    triples = [(0, 0, 1)]
    for z in range(size):
        triples.append((0, 1, z))
    for y in range(size):
        for z in range(size):
            triples.append((1, y, z))
    return triples


def points_across(field, triple, triples):
    return tuple([point for point, other in enumerate(triples) if added_products(field, triple, other) == 0])


def added_products(field, one, other):
    total = 0
    for a, b in zip(one, other):
        total = field.plus(total, field.times(a, b))
    return total


def flat_of(field):
    size = field.size()
    blocks = []
    for m in range(size):
        for c in range(size):
            blocks.append(tuple([x * size + field.plus(field.times(m, x), c) for x in range(size)]))
    for c in range(size):
        blocks.append(tuple([c * size + y for y in range(size)]))
    return (size * size, tuple(blocks))


def plane_told(M):
    uneven = first_uneven([numbers_of_blocks_with(M, point) for point in range(M[0])])
    if uneven is not None:
        return ("points",) + uneven
    uneven = first_uneven(M[1])
    if uneven is not None:
        return ("blocks",) + uneven
    # Two blocks of three points or more have two each beside the one in common: four of which no three lie in one
    # block. And where there are such four, the block of two of them and that of the others meet in a fifth.
    if len([block for block in M[1] if len(block) > 2]) < 2:
        return ("few",)
    return ("plane", len(M[1][0]) - 1)


def first_uneven(rows):
    for i in range(len(rows)):
        for j in range(i + 1, len(rows)):
            common = len(set(rows[i]) & set(rows[j]))
            if common != 1:
                return (i, j, common)
    return None
