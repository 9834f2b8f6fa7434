import copy
import itertools
import unittest

from evenmeet.counts import pairs_told
from evenmeet.errors import NoNet
from evenmeet.fields import Field
from evenmeet.layouts import renamed
from evenmeet.nets import net_of, over_told, square_told, squares_back, squares_of
from evenmeet.planes import flat_of
from tests.things import Drawn, LayoutCase, all_sets, developed_by, drawn_layouts, plain_layout, small_fields

SIZES = range(1, 8)


def cyclic_square(size, step=1):
    return tuple(tuple((step * r + c) % size for c in range(size)) for r in range(size))


def all_squares(size):
    rows = list(itertools.permutations(range(size)))
    return [square for square in itertools.product(rows, repeat=size) if plain_square_told(square) == ("square",)]


def drawn_square(drawn, size):
    """A cyclic one with its rows, columns and numbers in another order."""
    rows, columns, numbers = [drawn.row(size) for turn in range(3)]
    return tuple(tuple(numbers[(r + c) % size] for c in columns) for r in rows)


def changed(rows, r, c, number):
    told = [list(row) for row in rows]
    told[r][c] = number
    return tuple(tuple(row) for row in told)


def plain_square_told(rows):
    """Point 18's words, step by step."""
    places = range(len(rows))
    found = [(r, c, d) for r in places for c in places for d in places if c < d and rows[r][c] == rows[r][d]]
    if found:
        return ("row",) + min(found)
    found = [(c, r, d) for c in places for r in places for d in places if r < d and rows[r][c] == rows[d][c]]
    if found:
        return ("column",) + min(found)
    return ("square",)


def plain_over_told(one, other):
    cells = list(itertools.product(range(len(one)), repeat=2))
    for place, (s, d) in enumerate(cells):
        for r, c in cells[:place]:
            if (one[r][c], other[r][c]) == (one[s][d], other[s][d]):
                return ("twice", (r, c), (s, d))
    return ("over",)


def plain_net(squares):
    size = len(squares[0])
    cells = {cell: place for place, cell in enumerate(itertools.product(range(size), repeat=2))}
    blocks = [[cells[r, c] for c in range(size)] for r in range(size)]
    blocks += [[cells[r, c] for r in range(size)] for c in range(size)]
    for square in squares:
        blocks += [[cells[r, c] for r, c in cells if square[r][c] == number] for number in range(size)]
    return plain_layout(size * size, blocks)


def plain_back(M):
    """Point 19's words, step by step; None where it is no net."""
    sizes = [size for size in range(1, 8) if size * size == M[0]]
    if not sizes or len(M[1]) % sizes[0] != 0:
        return None
    size = sizes[0]
    classes = [M[1][start:start + size] for start in range(0, len(M[1]), size)]
    if len(classes) < 2:
        return None
    for blocks in classes:
        if any(sum(1 for block in blocks if point in block) != 1 for point in range(M[0])):
            return None
    for one, other in itertools.combinations(classes, 2):
        if any(len(set(block) & set(beside)) != 1 for block in one for beside in other):
            return None
    squares = []
    for blocks in classes[2:]:
        square = []
        for row in classes[0]:
            points = [min(set(row) & set(column)) for column in classes[1]]
            square.append(tuple([point in block for block in blocks].index(True) for point in points))
        squares.append(tuple(square))
    return squares


def over_each_other():
    """Lists of squares of one size, each two over each other."""
    told = [[cyclic_square(size)] for size in SIZES]
    told += [[cyclic_square(size, step) for step in range(1, size)] for size in (3, 5, 7)]
    told += [[cyclic_square(7, step) for step in (5, 2)], [cyclic_square(5, step) for step in (4, 1, 3)]]
    told += [[((0,),)] * many for many in (1, 2, 5, 198)]
    drawn = Drawn(19)
    told += [[drawn_square(drawn, size)] for size in SIZES for turn in range(3)]
    told += [squares_of(Field(p, row)) for p, row in small_fields()]
    return told


class SquareTold(unittest.TestCase):
    def check(self, rows):
        told = square_told(rows)
        self.assertIs(type(told), tuple)
        self.assertEqual([type(part) for part in told], [str] + [int] * (len(told) - 1))
        self.assertEqual(told, plain_square_told(rows), rows)
        return told[0]

    def test_known_ones(self):
        self.assertEqual(square_told(((0,),)), ("square",))
        self.assertEqual(square_told(((0, 1), (1, 0))), ("square",))
        self.assertEqual(square_told(((0, 1), (0, 1))), ("column", 0, 0, 1))
        self.assertEqual(square_told(((0, 0), (1, 1))), ("row", 0, 0, 1))
        self.assertEqual(square_told(((0, 1), (1, 1))), ("row", 1, 0, 1))
        self.assertEqual(square_told(((0, 1, 2), (1, 2, 0), (2, 1, 0))), ("column", 1, 0, 2))
        self.assertEqual(square_told(((0, 1, 2), (0, 2, 1), (1, 0, 1))), ("row", 2, 0, 2))

    def test_the_least_two_places(self):
        # The one whose first place is least, be its second one behind the other's.
        self.assertEqual(square_told(((1, 0, 0, 1),) * 4), ("row", 0, 0, 3))
        self.assertEqual(square_told(((2, 0, 0, 0),) * 4), ("row", 0, 1, 2))
        self.assertEqual(square_told(((3, 3, 3, 3),) * 4), ("row", 0, 0, 1))
        columns = ((1, 0, 2, 3), (0, 1, 3, 2), (0, 2, 1, 3), (1, 3, 0, 2))
        self.assertEqual(square_told(columns), ("column", 0, 0, 3))

    def test_squares(self):
        drawn = Drawn(8)
        for size in SIZES:
            self.assertEqual(square_told(cyclic_square(size)), ("square",))
            for turn in range(10):
                self.assertEqual(square_told(drawn_square(drawn, size)), ("square",))

    def test_all_rows_of_three(self):
        words = [self.check(tuple(zip(*[iter(numbers)] * 3))) for numbers in itertools.product(range(3), repeat=9)]
        self.assertEqual(words.count("square"), 12)
        self.assertEqual(set(words), {"square", "row", "column"})

    def test_rows_without_a_number_twice(self):
        lines = list(itertools.permutations(range(4)))
        words = [self.check(rows + ((3, 1, 0, 2),)) for rows in itertools.product(lines, repeat=3)]
        self.assertEqual(set(words), {"square", "column"})

    def test_one_number_changed_anywhere(self):
        drawn = Drawn(81)
        for size in SIZES:
            square = drawn_square(drawn, size)
            for r, c, number in itertools.product(range(size), repeat=3):
                word = self.check(changed(square, r, c, number))
                self.assertEqual(word, "square" if square[r][c] == number else "row")

    def test_two_numbers_of_a_row_changed(self):
        drawn = Drawn(82)
        for size in SIZES:
            square = drawn_square(drawn, size)
            for r, c, d in itertools.product(range(size), repeat=3):
                other = changed(changed(square, r, c, square[r][d]), r, d, square[r][c])
                self.assertEqual(self.check(other), "square" if c == d else "column")

    def test_drawn_rows(self):
        drawn = Drawn(83)
        for size in SIZES:
            for turn in range(100):
                self.check(tuple(tuple(drawn.below(size) for c in range(size)) for r in range(size)))
                self.check(tuple(tuple(drawn.row(size)) for r in range(size)))


class OverTold(unittest.TestCase):
    def check(self, one, other):
        told = over_told(one, other)
        self.assertIs(type(told), tuple)
        if told != ("over",):
            self.assertEqual([type(part) for part in told], [str, tuple, tuple])
        self.assertEqual(told, plain_over_told(one, other), (one, other))
        return told[0]

    def test_known_ones(self):
        self.assertEqual(over_told(((0,),), ((0,),)), ("over",))
        self.assertEqual(over_told(((0, 1), (1, 0)), ((0, 1), (1, 0))), ("twice", (0, 1), (1, 0)))
        self.assertEqual(over_told(((0, 1), (1, 0)), ((1, 0), (0, 1))), ("twice", (0, 1), (1, 0)))
        one = ((0, 1, 2), (1, 2, 0), (2, 0, 1))
        self.assertEqual(over_told(one, ((0, 1, 2), (2, 0, 1), (1, 2, 0))), ("over",))
        self.assertEqual(over_told(one, one), ("twice", (0, 1), (1, 0)))
        self.assertEqual(over_told(one, ((0, 2, 1), (2, 1, 0), (1, 0, 2))), ("twice", (0, 1), (1, 0)))

    def test_each_two_squares_of_few_numbers(self):
        for size in (1, 2, 3):
            words = [self.check(one, other) for one, other in itertools.product(all_squares(size), repeat=2)]
            self.assertEqual(words.count("over"), {1: 1, 2: 0, 3: 72}[size])

    def test_each_two_of_four_numbers_with_the_first(self):
        squares = all_squares(4)
        self.assertEqual(len(squares), 576)
        words = []
        for one in squares[::100]:
            words += [self.check(one, other) for other in squares] + [self.check(other, one) for other in squares]
        self.assertEqual(set(words), {"over", "twice"})

    def test_drawn_ones(self):
        drawn = Drawn(84)
        words = []
        for size in SIZES:
            for turn in range(40):
                words.append(self.check(drawn_square(drawn, size), drawn_square(drawn, size)))
                words.append(self.check(cyclic_square(size), drawn_square(drawn, size)))
        self.assertEqual(set(words), {"over", "twice"})

    def test_the_last_cells_may_be_the_first_that_come_twice(self):
        # Over each other but for the last two rows, which stand the other way round.
        for size in (5, 7):
            one = cyclic_square(size, 1)
            other = cyclic_square(size, 2)
            turned = other[:-2] + (other[-1], other[-2])
            self.assertEqual(self.check(one, turned), "twice")
            self.assertGreaterEqual(over_told(one, turned)[2], (size - 2, 0))

    def test_squares_over_each_other(self):
        for squares in over_each_other():
            for one, other in itertools.combinations(squares[:8], 2):
                self.assertEqual(over_told(one, other), ("over",))
                self.assertEqual(over_told(other, one), ("over",))


class SquaresOf(unittest.TestCase):
    def test_each_field(self):
        for p, row in small_fields():
            size = p ** (len(row) - 1)
            squares = squares_of(Field(p, row))
            self.assertIs(type(squares), list)
            self.assertEqual(len(squares), size - 1)
            for square in squares:
                self.assertIs(type(square), tuple)
                self.assertEqual([(type(line), len(line)) for line in square], [(tuple, size)] * size)
                self.assertTrue(all(type(number) is int and 0 <= number < size for line in square for number in line))
                self.assertEqual(plain_square_told(square), ("square",))
                self.assertEqual(square_told(square), ("square",))
            for one, other in itertools.combinations(squares, 2):
                self.assertEqual(plain_over_told(one, other), ("over",))
                self.assertEqual(over_told(one, other), ("over",))

    def test_the_told_list_is_the_askers_own(self):
        field = Field(2, (1, 1, 1))
        squares = squares_of(field)
        kept = list(squares)
        squares.clear()
        self.assertEqual(squares_of(field), kept)


class NetOf(LayoutCase):
    def test_known_ones(self):
        self.assertEqual(net_of([((0,),)]), (1, ((0,), (0,), (0,))))
        two = ((0, 1), (2, 3), (0, 2), (1, 3), (0, 3), (1, 2))
        self.assertEqual(net_of([((0, 1), (1, 0))]), (4, two))
        two = two[:4] + ((1, 2), (0, 3))
        self.assertEqual(net_of([((1, 0), (0, 1))]), (4, two))
        three = net_of([cyclic_square(3, 1), cyclic_square(3, 2)])
        self.assertEqual(three[1][:6], ((0, 1, 2), (3, 4, 5), (6, 7, 8), (0, 3, 6), (1, 4, 7), (2, 5, 8)))
        self.assertEqual(three[1][6:], ((0, 5, 7), (1, 3, 8), (2, 4, 6), (0, 4, 8), (1, 5, 6), (2, 3, 7)))

    def test_against_plain_going_through(self):
        for squares in over_each_other():
            told = net_of(squares)
            self.check_is_layout(told)
            self.assertEqual(told, plain_net(squares))

    def test_squares_that_do_not_lie_over_each_other(self):
        drawn = Drawn(190)
        for size in SIZES:
            for many in (2, 3, 6):
                squares = [drawn_square(drawn, size) for turn in range(many)]
                self.assertEqual(net_of(squares), plain_net(squares))

    def test_one_less_than_their_size_have_an_even_net(self):
        for squares in over_each_other():
            size = len(squares[0])
            if size > 1:
                self.assertEqual(pairs_told(net_of(squares)) == ("same", 1), len(squares) == size - 1)

    def test_the_list_stays(self):
        for squares in over_each_other():
            kept = copy.deepcopy(squares)
            told = net_of(squares)
            self.assertEqual(squares, kept)
            squares.clear()
            self.assertEqual(told, plain_net(kept))


class SquaresBack(unittest.TestCase):
    def check(self, M):
        wanted = plain_back(M)
        if wanted is None:
            with self.assertRaises(NoNet):
                squares_back(M)
        else:
            told = squares_back(M)
            self.assertIs(type(told), list)
            self.assertEqual(told, wanted)
        return wanted is not None

    def refused(self, points, blocks):
        M = plain_layout(points, blocks)
        self.assertIsNone(plain_back(M))
        with self.assertRaises(NoNet):
            squares_back(M)

    def test_squares_come_back_as_they_were(self):
        for squares in over_each_other():
            M = net_of(squares)
            kept = copy.deepcopy(M)
            told = squares_back(M)
            self.assertEqual(told, squares)
            self.assertIs(type(told), list)
            for square in told:
                self.assertIs(type(square), tuple)
                self.assertEqual({type(row) for row in square}, {tuple})
                self.assertEqual({type(number) for row in square for number in row}, {int})
            told.clear()
            self.assertEqual(squares_back(M), squares)
            self.assertEqual(M, kept)

    def test_two_classes_have_no_squares_behind_them(self):
        for size in SIZES:
            M = net_of([cyclic_square(size)])
            self.assertEqual(squares_back((M[0], M[1][:2 * size])), [])
        self.assertEqual(squares_back((1, ((0,), (0,)))), [])
        self.assertEqual(squares_back((1, ((0,),) * 200)), [((0,),)] * 198)

    def test_nets_with_points_and_classes_and_blocks_in_another_order(self):
        drawn = Drawn(191)
        for squares in over_each_other():
            M = net_of(squares)
            size = len(squares[0])
            other = renamed(M, drawn.row(M[0]))
            classes = [other[1][start:start + size] for start in range(0, len(other[1]), size)]
            blocks = []
            for place in drawn.row(len(classes)):
                blocks += [classes[place][number] for number in drawn.row(size)]
            self.assertTrue(self.check((M[0], tuple(blocks))))

    def test_flat_planes_are_nets(self):
        for p, row in small_fields():
            M = flat_of(Field(p, row))
            self.assertTrue(self.check(M))
            squares = squares_back(M)
            self.assertEqual(len(squares), p ** (len(row) - 1) - 1)
            self.assertEqual({plain_square_told(square) for square in squares}, {("square",)})

    def test_read_by_hand(self):
        # The cells are 3, 1 and 0, 2; the third class has 2 and 3 first.
        self.assertEqual(squares_back((4, ((1, 3), (0, 2), (0, 3), (1, 2), (2, 3), (0, 1)))), [((0, 1), (1, 0))])
        self.assertEqual(squares_back((4, ((1, 3), (0, 2), (0, 3), (1, 2), (0, 1), (2, 3)))), [((1, 0), (0, 1))])

    def test_points_that_are_no_square(self):
        for points in (2, 3, 5, 6, 7, 8, 10, 12, 60):
            self.refused(points, [range(points)] * 2)
            self.refused(points, [])
            self.refused(points, [[point] for point in range(points)] * 2)
            size = int(points ** 0.5)
            self.refused(points, plain_net([cyclic_square(size)])[1])
        self.refused(7, developed_by(7, (0, 1, 3))[1])

    def test_blocks_that_make_no_classes(self):
        for size in range(2, 8):
            blocks = plain_net([cyclic_square(size)])[1]
            for many in range(1, size):
                self.refused(size * size, blocks[:2 * size + many])
                self.refused(size * size, blocks[:2 * size - many])
            self.refused(size * size, blocks + blocks[:1])

    def test_fewer_than_two_classes(self):
        for size in SIZES:
            self.refused(size * size, [])
            self.refused(size * size, plain_net([cyclic_square(size)])[1][:size])

    def test_a_class_without_a_point_or_with_one_twice(self):
        for size in SIZES:
            blocks = list(plain_net([cyclic_square(size)])[1])
            for place in (0, size - 1, size, 2 * size, 3 * size - 1):
                self.refused(size * size, blocks[:place] + [blocks[place][1:]] + blocks[place + 1:])
                self.refused(size * size, blocks[:place] + [blocks[place][:-1]] + blocks[place + 1:])
                self.refused(size * size, blocks[:place] + [()] + blocks[place + 1:])
                if size > 1:
                    other = blocks[place - 1 if place % size else place + 1]
                    self.refused(size * size, blocks[:place] + [blocks[place] + other[:1]] + blocks[place + 1:])
                    self.refused(size * size, blocks[:place] + [other] + blocks[place + 1:])
                    swapped = blocks[place][1:] + other[:1]
                    self.refused(size * size, blocks[:place] + [swapped] + blocks[place + 1:])

    def test_unlike_classes_with_blocks_that_do_not_meet_once(self):
        for size in range(2, 8):
            blocks = list(plain_net([cyclic_square(size)])[1])
            self.refused(size * size, blocks[:size] * 2)
            self.refused(size * size, blocks + blocks[:size])
            self.refused(size * size, blocks + blocks[2 * size:])
            self.refused(size * size, [range(size * size)] + [()] * (size - 1) + blocks)
            self.refused(size * size, blocks + [()] * (size - 1) + [range(size * size)])
            # The numbers of the other square stand where those of the one do, each one greater.
            other = tuple(tuple((number + 1) % size for number in row) for row in cyclic_square(size))
            self.refused(size * size, plain_net([cyclic_square(size), other])[1])

    def test_blocks_of_unlike_classes_in_each_other_place(self):
        blocks = list(plain_net([cyclic_square(3), cyclic_square(3, 2)])[1])
        kept = 0
        for i, j in itertools.combinations(range(len(blocks)), 2):
            other = list(blocks)
            other[i], other[j] = blocks[j], blocks[i]
            told = self.check(plain_layout(9, other))
            self.assertEqual(told, i // 3 == j // 3)
            kept += told
        self.assertEqual(kept, 12)

    def test_every_layout_of_one_and_four_points(self):
        kept = 0
        for many in range(6):
            for blocks in itertools.product([(), (0,)], repeat=many):
                kept += self.check((1, blocks))
        self.assertEqual(kept, 4)
        sets = [block for size in range(5) for block in itertools.combinations(range(4), size)]
        kept = sum(self.check((4, blocks)) for blocks in itertools.product(sets, repeat=4))
        # Two of the three ways to part four points into twos, in order, each in two orders.
        self.assertEqual(kept, 24)
        twos = list(itertools.combinations(range(4), 2))
        self.assertEqual(sum(self.check((4, blocks)) for blocks in itertools.product(twos, repeat=6)), 48)

    def test_drawn_layouts(self):
        for M in drawn_layouts():
            self.check(M)
        for size in (4, 9, 16, 25):
            self.check(all_sets(size, 1))


if __name__ == "__main__":
    unittest.main()
