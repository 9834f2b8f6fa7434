"""Classes: blocks parted into sets that have each point once, or a tree of cases that shuts it."""

from evenmeet.numbers import is_just


def parted(M):
    if () in M[1]:
        return ("shut", (None, ()))
    return gone_through(M, [])


def gone_through(M, rows):
    built = begun(M, rows)
    point = missing_point(M, built)
    if point is None:
        return ("classes", [sorted(row) for row in built])
    sons = []
    for block in fitting_blocks(M, built, point):
        told = gone_through(M, with_block(built, block))
        if told[0] == "classes":
            return told
        sons.append((block, told[1]))
    return ("shut", (point, tuple(sons)))


def no_classes(M, tree):
    if () in M[1]:
        return is_tuple_of(tree, 2) and tree[0] is None and is_tuple_of(tree[1], 0)
    return shuts_all(M, [], tree)


def shuts_all(M, rows, tree):
    built = begun(M, rows)
    point = missing_point(M, built)
    # Where no point is missing the blocks are parted, and no tree can say that they aren't.
    if point is None or not is_tuple_of(tree, 2) or not is_just(tree[0], point):
        return False
    blocks = fitting_blocks(M, built, point)
    if not is_tuple_of(tree[1], len(blocks)):
        return False
    for block, son in zip(blocks, tree[1]):
        if not shuts_block(M, built, block, son):
            return False
    return True


def shuts_block(M, rows, block, son):
    return is_tuple_of(son, 2) and is_just(son[0], block) and shuts_all(M, with_block(rows, block), son[1])


def is_tuple_of(thing, many):
    return isinstance(thing, tuple) and len(thing) == many


def begun(M, rows):
    # The last row is the class that is being built. Some class has the least block left, and which of those to come
    # is built first doesn't matter, so the next one begins with it.
    built = list(rows)
    left = blocks_left(M, rows)
    while missing_point(M, built) is None and len(left) > 0:
        built.append([left[0]])
        left = left[1:]
    return built


def blocks_left(M, rows):
    taken = {}
    for row in rows:
        for block in row:
            taken[block] = True
    return [block for block in range(len(M[1])) if block not in taken]


def missing_point(M, rows):
    if len(rows) == 0:
        return None
    had = points_had(M, rows[-1])
    return min([point for point in range(M[0]) if point not in had], default=None)


def points_had(M, row):
    had = {}
    for block in row:
        for point in M[1][block]:
            had[point] = True
    return had


def fitting_blocks(M, rows, point):
    had = points_had(M, rows[-1])
    return [block for block in blocks_left(M, rows) if point in M[1][block] and has_none(M[1][block], had)]


def has_none(block, had):
    return not any([point in had for point in block])


def with_block(rows, block):
    return rows[:-1] + [rows[-1] + [block]]
