"""What the tests share: things that are no whole numbers, and plain ways to find an answer."""

import itertools
import unittest


def no_wholes():
    return [True, False, None, "", "6", "six", [], [6], [[1]], (), (6,), {}, {6: 6}, 6.0, 1.5, b"6", {6}, int, object()]


class EqualToAll:
    """Equal to each point, and without a hash."""

    __hash__ = None

    def __eq__(self, other):
        return True


def is_plain_prime(p):
    return p > 1 and all(p % d != 0 for d in range(2, p))


def plain_of(n):
    """The plain part's first number, by going through all squares."""
    best = max(f for f in range(1, abs(n) + 1) if f * f <= abs(n) and n % (f * f) == 0)
    return n // (best * best)


def is_square_by(n, p):
    return any((x * x - n) % p == 0 for x in range(p))


def is_shut(a, b, p):
    """Point 5's words, step by step."""
    if p == 2 or not is_plain_prime(p):
        return False
    s = plain_of(a)
    t = plain_of(b)
    if s % p != 0 and t % p != 0:
        return False
    if s % p == 0 and t % p == 0:
        return not is_square_by(-(s // p) * (t // p), p)
    return not is_square_by(t if s % p == 0 else s, p)


def told_numbers(many, most):
    """Numbers from -most to most but 0, far apart, the same each time."""
    told = []
    state = 12345
    while len(told) < many:
        state = (state * 1103515245 + 12345) % (2 ** 31)
        number = (state // 8) % (2 * most + 1) - most
        if number != 0:
            told.append(number)
    return told


class Drawn:
    """Numbers and layouts that look drawn, the same each time."""

    def __init__(self, seed):
        self.state = seed

    def below(self, most):
        self.state = (self.state * 6364136223846793005 + 1442695040888963407) % (2 ** 64)
        return (self.state >> 33) % most

    def row(self, points):
        row = list(range(points))
        for place in range(points - 1, 0, -1):
            other = self.below(place + 1)
            row[place], row[other] = row[other], row[place]
        return row

    def block(self, points):
        """From none to all of the points, in any order."""
        return self.row(points)[:self.below(points + 1)]

    def blocks(self, points, many):
        """Some of them alike, but for the order of their points."""
        told = []
        while len(told) < many:
            if told and self.below(5) == 0:
                told.append(list(reversed(told[self.below(len(told))])))
            else:
                told.append(self.block(points))
        return told


def plain_layout(points, blocks):
    return (points, tuple(tuple(sorted(block)) for block in blocks))


def drawn_layouts():
    """Layouts of few points with all numbers of blocks, then some up to the bounds."""
    drawn = Drawn(7)
    sizes = [(points, many) for points in range(1, 9) for many in (0, 1, 2, 3, 5, 8, 13)]
    sizes += [(1, 200), (2, 200), (60, 0), (60, 1), (13, 60), (12, 61), (30, 31), (60, 60), (60, 200)]
    return [plain_layout(points, drawn.blocks(points, many)) for points, many in sizes]


def developed_by(points, base):
    return plain_layout(points, [[(x + turn) % points for x in base] for turn in range(points)])


def all_sets(points, size):
    return plain_layout(points, itertools.combinations(range(points), size))


def even_squares():
    """Even layouts with as many blocks as points: tuples (layout, K, L), K above L, L from 1 on."""
    planes = [(developed_by(7, (0, 1, 3)), 3, 1), (developed_by(13, (0, 1, 3, 9)), 4, 1)]
    planes += [(developed_by(21, (3, 6, 7, 12, 14)), 5, 1), (developed_by(31, (1, 5, 11, 24, 25, 27)), 6, 1)]
    planes += [(developed_by(57, (0, 1, 3, 13, 32, 36, 43, 52)), 8, 1)]
    others = [(developed_by(11, (1, 3, 4, 5, 9)), 5, 2), (developed_by(7, (0, 3, 5, 6)), 4, 2)]
    others += [(developed_by(15, (0, 1, 2, 4, 5, 8, 10)), 7, 3), (grid_of_four(), 6, 2)]
    return planes + others + [(all_sets(v, v - 1), v - 1, v - 2) for v in (3, 4, 5, 9)]


def grid_of_four():
    """16 cells; for each the six others in its row and column."""
    cells = [(r, c) for r in range(4) for c in range(4)]
    return plain_layout(16, [[4 * r + c for r, c in cells if (r == s) != (c == d)] for s, d in cells])


def even_others():
    """Even layouts with other numbers of blocks: tuples (layout, L)."""
    flat = [[3 * x + (m * x + c) % 3 for x in range(3)] for m in range(3) for c in range(3)]
    flat += [[3 * c + y for y in range(3)] for c in range(3)]
    told = [(plain_layout(9, flat), 1), (all_sets(5, 2), 1), (all_sets(6, 3), 4), (all_sets(7, 0), 0)]
    told += [((5, ()), 0), (plain_layout(4, [range(4)] * 4), 4), (all_sets(8, 1), 0)]
    told += [(plain_layout(4, [range(4)]), 1), (plain_layout(7, list(developed_by(7, (0, 1, 3))[1]) * 2), 2)]
    return told


def all_blocks(points):
    return [block for size in range(points + 1) for block in itertools.combinations(range(points), size)]


def all_layouts(points, most):
    """All layouts of so many points with at most so many blocks, in every order."""
    blocks = all_blocks(points)
    return [(points, told) for many in range(most + 1) for told in itertools.product(blocks, repeat=many)]


def all_rows(p, many):
    """All rows of so many numbers by p, the last one 1."""
    return [lower + (1,) for lower in itertools.product(range(p), repeat=many - 1)]


def plain_product(p, one, other):
    """By way of one long number each, whose figures are far enough apart to add up without a carry."""
    apart = 10 ** 12
    product = sum(digit * apart ** place for place, digit in enumerate(one))
    product *= sum(digit * apart ** place for place, digit in enumerate(other))
    digits = []
    while product:
        digits.append(product % apart % p)
        product //= apart
    while digits and digits[-1] == 0:
        digits.pop()
    return tuple(digits)


def plain_products(p, many):
    """The rows of so many numbers that are products of two rows of two or more."""
    told = set()
    for fewer in range(2, (many + 1) // 2 + 1):
        for one in all_rows(p, fewer):
            for other in all_rows(p, many + 1 - fewer):
                told.add(plain_product(p, one, other))
    return told


def field_rows(size):
    """The prime and, of the rows that make fields of this size, all."""
    p = min(d for d in range(2, size + 1) if size % d == 0)
    many = 1
    while p ** many < size:
        many += 1
    products = plain_products(p, many + 1)
    return p, [row for row in all_rows(p, many + 1) if row not in products]


class PlainField:
    """Digits are added one by one; a product is built from the highest digit, one power of the unknown at a time."""

    def __init__(self, p, row):
        self.p = p
        self.row = row
        self.q = p ** (len(row) - 1)

    def digits(self, number):
        return [number // self.p ** place % self.p for place in range(len(self.row) - 1)]

    def number(self, digits):
        return sum(digit % self.p * self.p ** place for place, digit in enumerate(digits))

    def plus(self, a, b):
        return self.number([x + y for x, y in zip(self.digits(a), self.digits(b))])

    def times(self, a, b):
        told = [0] * (len(self.row) - 1)
        for digit in reversed(self.digits(b)):
            raised = [0] + told[:-1]
            told = [x - told[-1] * y + digit * z for x, y, z in zip(raised, self.row, self.digits(a))]
        return self.number(told)


def small_fields():
    """Tuples (prime, row): of each size from 2 to 7 that has fields, all their rows."""
    return [(field_rows(size)[0], row) for size in (2, 3, 4, 5, 7) for row in field_rows(size)[1]]


class LayoutCase(unittest.TestCase):
    def check_is_layout(self, told):
        self.assertIs(type(told), tuple)
        self.assertEqual(len(told), 2)
        self.assertIs(type(told[0]), int)
        self.assertIs(type(told[1]), tuple)
        for block in told[1]:
            self.assertIs(type(block), tuple)
            for point in block:
                self.assertIs(type(point), int)
                self.assertTrue(0 <= point < told[0])
            self.assertTrue(all(a < b for a, b in zip(block, block[1:])), block)
