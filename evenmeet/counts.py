"""Counts: how many blocks have a point or some points, and whether that is the same for all."""


def degrees(M):
    counts = [0] * M[0]
    for block in M[1]:
        for point in block:
            counts[point] += 1
    return counts


def count_of(M, points):
    return len([block for block in M[1] if has_all(block, points)])


def has_all(block, points):
    return all([point in block for point in points])


def pairs_told(M):
    rows = marked_blocks(M)
    cases = []
    counts = []
    for a in range(M[0]):
        with_a = rows_with(rows, a)
        for b in range(a + 1, M[0]):
            cases.append((a, b))
            counts.append(len(rows_with(with_a, b)))
    return told_of(cases, counts)


def triples_told(M):
    rows = marked_blocks(M)
    cases = []
    counts = []
    for a in range(M[0]):
        with_a = rows_with(rows, a)
        for b in range(a + 1, M[0]):
            with_both = rows_with(with_a, b)
            for c in range(b + 1, M[0]):
                cases.append((a, b, c))
                counts.append(len(rows_with(with_both, c)))
    return told_of(cases, counts)


def flags_told(M):
    cases = []
    counts = []
    for point in range(M[0]):
        beside = points_beside(M, point)
        for number, block in enumerate(M[1]):
            if point not in block:
                cases.append((point, number))
                counts.append(len([other for other in block if beside[other]]))
    return told_of(cases, counts)


def told_of(cases, counts):
    if len(cases) == 0:
        return ("none",)
    for case, count in zip(cases, counts):
        if count != counts[0]:
            return ("unlike", cases[0], counts[0], case, count)
    return ("same", counts[0])


def marked_blocks(M):
    # A look into a row of truths doesn't go through the block's points, as one into the block would.
    return [marks_of(M[0], block) for block in M[1]]


def marks_of(points, block):
    marks = [False] * points
    for point in block:
        marks[point] = True
    return marks


def rows_with(rows, point):
    return [row for row in rows if row[point]]


def points_beside(M, point):
    beside = []
    for block in M[1]:
        if point in block:
            beside.extend(block)
    return marks_of(M[0], beside)
