"""Squares, whether two lie over each other, the net of squares, and squares read back from a net."""

from evenmeet.errors import NoNet
from evenmeet.numbers import root_of


def square_told(rows):
    twice = first_twice(rows)
    if twice is not None:
        return ("row",) + twice
    twice = first_twice([column_of(rows, c) for c in range(len(rows))])
    if twice is not None:
        return ("column",) + twice
    return ("square",)


def column_of(rows, c):
    return [row[c] for row in rows]


def first_twice(rows):
    for r, row in enumerate(rows):
        for c, number in enumerate(row):
            if number in row[c + 1:]:
                return (r, c, row.index(number, c + 1))
    return None


def over_told(one, other):
    cells = {}
    for r in range(len(one)):
        for c in range(len(one)):
            pair = (one[r][c], other[r][c])
            if pair in cells:
                return ("twice", cells[pair], (r, c))
            cells[pair] = (r, c)
    return ("over",)


def squares_of(field):
    return [sloped_square(field, slope) for slope in range(1, field.size())]


def sloped_square(field, slope):
    return tuple([sloped_row(field, field.times(slope, r)) for r in range(field.size())])


def sloped_row(field, start):
    return tuple([field.plus(start, c) for c in range(field.size())])


def net_of(squares):
    size = len(squares[0])
    cells = size * size
    blocks = blocks_by_number(size, [cell // size for cell in range(cells)])
    blocks.extend(blocks_by_number(size, [cell % size for cell in range(cells)]))
    for square in squares:
        blocks.extend(blocks_by_number(size, [square[cell // size][cell % size] for cell in range(cells)]))
    return (cells, tuple(blocks))


def blocks_by_number(size, numbers):
    return [cells_with(numbers, number) for number in range(size)]


def cells_with(numbers, number):
    return tuple([cell for cell, other in enumerate(numbers) if other == number])


def squares_back(M):
    size = root_of(M[0])
    if size * size != M[0] or len(M[1]) % size != 0 or len(M[1]) < 2 * size:
        raise NoNet("the points are no square, or the blocks no two classes or more")
    classes = [numbers_by_class(M[0], M[1][start:start + size]) for start in range(0, len(M[1]), size)]
    for place, numbers in enumerate(classes):
        for other in classes[:place]:
            must_cross(numbers, other)
    points = [0] * M[0]
    for point in range(M[0]):
        points[classes[0][point] * size + classes[1][point]] = point
    return [square_back(size, [numbers[point] for point in points]) for numbers in classes[2:]]


def numbers_by_class(points, blocks):
    numbers = [None] * points
    for number, block in enumerate(blocks):
        for point in block:
            if numbers[point] is not None:
                raise NoNet("a point is twice in a class")
            numbers[point] = number
    if None in numbers:
        raise NoNet("a point is in no block of a class")
    return numbers


def must_cross(numbers, others):
    # There are as many points as pairs of blocks, so unlike pairs are all of them, each at one point.
    if len(set(list(zip(numbers, others)))) < len(numbers):
        raise NoNet("two blocks of unlike classes have two points in common, or none")


def square_back(size, numbers):
    return tuple([tuple(numbers[start:start + size]) for start in range(0, size * size, size)])
