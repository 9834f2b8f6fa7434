"""Bases found: so many of one size that all their differences come as often."""

from evenmeet.turning import differences


def bases_for(n, k, l):
    wanted = l * (n - 1)
    each = k * (k - 1)
    if wanted % each != 0:
        return ("none",)
    bases = bases_by_differences(n, k)
    rows = rows_adding_up(list(bases), wanted // each, [l] * (n - 1))
    if rows is None:
        return ("none",)
    # Copies: a base that is told twice must not be one list at two places.
    return ("bases", [list(bases[row]) for row in rows])


def bases_by_differences(n, k):
    # A base that is turned keeps its differences, so those with 0 stand for all, and one for those alike.
    bases = {}
    for base in bases_with_nought(n, k):
        bases.setdefault(tuple(differences(n, [base])), base)
    return bases


def bases_with_nought(n, k):
    bases = [[0]]
    for turn in range(k - 1):
        bases = longer_by_one(n, bases)
    return bases


def longer_by_one(n, bases):
    longer = []
    for base in bases:
        for number in range(base[-1] + 1, n):
            longer.append(base + [number])
    return longer


def rows_adding_up(rows, many, left):
    # All rows have one sum, and so many have the sum of what is left: with none to choose nothing is left.
    if many == 0:
        return []
    for place, row in enumerate(rows):
        if fits(row, left):
            # From this row on alone: the order in which rows are chosen doesn't matter.
            further = rows_adding_up(rows[place:], many - 1, without(left, row))
            if further is not None:
                return [row] + further
    return None


def fits(row, left):
    return all([count <= most for count, most in zip(row, left)])


def without(left, row):
    return [most - count for count, most in zip(row, left)]
