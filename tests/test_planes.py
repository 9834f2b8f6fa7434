import copy
import itertools
import unittest

from evenmeet.changes import complement, dual
from evenmeet.counts import degrees, pairs_told
from evenmeet.fields import Field
from evenmeet.layouts import renamed
from evenmeet.planes import flat_of, plane_of, plane_told
from tests.things import Drawn, LayoutCase, PlainField, all_sets, developed_by, drawn_layouts, even_others
from tests.things import even_squares, plain_layout, small_fields

FANO = developed_by(7, (0, 1, 3))


def plain_plane(plain):
    triples = sorted(three for three in itertools.product(range(plain.q), repeat=3)
                     if [number for number in three if number != 0][:1] == [1])
    blocks = []
    for a, b, c in triples:
        block = []
        for place, (x, y, z) in enumerate(triples):
            if plain.plus(plain.plus(plain.times(a, x), plain.times(b, y)), plain.times(c, z)) == 0:
                block.append(place)
        blocks.append(block)
    return plain_layout(len(triples), blocks)


def plain_flat(plain):
    numbers = range(plain.q)
    places = {cell: place for place, cell in enumerate(itertools.product(numbers, repeat=2))}
    blocks = [[places[x, y] for x, y in places if plain.plus(plain.times(m, x), c) == y]
              for m, c in itertools.product(numbers, repeat=2)]
    blocks += [[places[c, y] for y in numbers] for c in numbers]
    return plain_layout(len(places), blocks)


def plain_told(M):
    """Point 17's words, step by step."""
    blocks = [set(block) for block in M[1]]
    for a, b in itertools.combinations(range(M[0]), 2):
        count = sum(1 for block in blocks if {a, b} <= block)
        if count != 1:
            return ("points", a, b, count)
    for i, j in itertools.combinations(range(len(blocks)), 2):
        if len(blocks[i] & blocks[j]) != 1:
            return ("blocks", i, j, len(blocks[i] & blocks[j]))
    for four in itertools.combinations(range(M[0]), 4):
        if not any(len(block & set(four)) > 2 for block in blocks):
            return ("plane", len(M[1][0]) - 1)
    return ("few",)


def near_pencil(points):
    """One block of all points but the last, and one of each of these with the last."""
    return plain_layout(points, [range(points - 1)] + [(x, points - 1) for x in range(points - 1)])


class PlaneOf(LayoutCase):
    def test_known_ones(self):
        two = ((1, 3, 5), (0, 3, 4), (2, 3, 6), (0, 1, 2), (1, 4, 6), (0, 5, 6), (2, 4, 5))
        self.assertEqual(plane_of(Field(2, (0, 1))), (7, two))
        self.assertEqual(plane_of(Field(2, (1, 1))), (7, two))
        # Of three numbers the points are 001, 010, 011, 012, 100, 101, 102, 110, 111, 112, 120, 121, 122.
        three = plane_of(Field(3, (0, 1)))
        self.assertEqual(three[0], 13)
        self.assertEqual(three[1][0], (1, 4, 7, 10))
        self.assertEqual(three[1][3], (2, 4, 8, 12))
        self.assertEqual(three[1][12], (3, 5, 7, 12))

    def test_against_plain_going_through(self):
        for p, row in small_fields():
            told = plane_of(Field(p, row))
            self.check_is_layout(told)
            self.assertEqual(told, plain_plane(PlainField(p, row)))

    def test_each_is_a_plane(self):
        for p, row in small_fields():
            field = Field(p, row)
            q = field.size()
            M = plane_of(field)
            self.assertEqual(M[0], q * q + q + 1)
            self.assertEqual(len(M[1]), M[0])
            self.assertEqual({len(block) for block in M[1]}, {q + 1})
            self.assertEqual(degrees(M), [q + 1] * M[0])
            self.assertEqual(pairs_told(M), ("same", 1))
            self.assertEqual(plane_told(M), ("plane", q))
            # A point lies in a block just as the block's point in the point's block.
            self.assertEqual(dual(M), M)


class FlatOf(LayoutCase):
    def test_known_ones(self):
        self.assertEqual(flat_of(Field(2, (0, 1))), (4, ((0, 2), (1, 3), (0, 3), (1, 2), (0, 1), (2, 3))))
        three = ((0, 3, 6), (1, 4, 7), (2, 5, 8), (0, 4, 8), (1, 5, 6), (2, 3, 7), (0, 5, 7), (1, 3, 8), (2, 4, 6))
        three += ((0, 1, 2), (3, 4, 5), (6, 7, 8))
        self.assertEqual(flat_of(Field(3, (2, 1))), (9, three))
        four = flat_of(Field(2, (1, 1, 1)))
        self.assertEqual(four[1][8:12], ((0, 6, 11, 13), (1, 7, 10, 12), (2, 4, 9, 15), (3, 5, 8, 14)))

    def test_against_plain_going_through(self):
        for p, row in small_fields():
            told = flat_of(Field(p, row))
            self.check_is_layout(told)
            self.assertEqual(told, plain_flat(PlainField(p, row)))

    def test_each_is_even_and_no_plane(self):
        for p, row in small_fields():
            field = Field(p, row)
            q = field.size()
            M = flat_of(field)
            self.assertEqual((M[0], len(M[1])), (q * q, q * q + q))
            self.assertEqual({len(block) for block in M[1]}, {q})
            self.assertEqual(pairs_told(M), ("same", 1))
            self.assertEqual(plane_told(M), ("blocks", 0, 1, 0))


class PlaneTold(unittest.TestCase):
    def check(self, M):
        told = plane_told(M)
        self.assertIs(type(told), tuple)
        self.assertEqual([type(part) for part in told], [str] + [int] * (len(told) - 1))
        self.assertEqual(told, plain_told(M), M)
        return told[0]

    def test_known_ones(self):
        self.assertEqual(plane_told(FANO), ("plane", 2))
        self.assertEqual(plane_told((4, ())), ("points", 0, 1, 0))
        self.assertEqual(plane_told((3, ((0, 1), (0, 1), (1, 2)))), ("points", 0, 1, 2))
        self.assertEqual(plane_told((3, ((0, 1), (1, 2)))), ("points", 0, 2, 0))
        self.assertEqual(plane_told((3, ((0, 1), (0, 1, 2)))), ("points", 0, 1, 2))
        self.assertEqual(plane_told(all_sets(4, 2)), ("blocks", 0, 5, 0))
        self.assertEqual(plane_told((1, ())), ("few",))
        self.assertEqual(plane_told((1, ((0,),) * 200)), ("few",))
        self.assertEqual(plane_told((1, ((0,), (0,), ()))), ("blocks", 0, 2, 0))
        self.assertEqual(plane_told((1, ((),))), ("few",))
        self.assertEqual(plane_told((2, ((0, 1), (0,)))), ("few",))
        self.assertEqual(plane_told((2, ((0, 1), (0,), (1,)))), ("blocks", 1, 2, 0))
        self.assertEqual(plane_told((3, ((0, 1), (0, 2), (1, 2)))), ("few",))
        self.assertEqual(plane_told((60, (tuple(range(60)),))), ("few",))

    def test_planes(self):
        for M, size, many in even_squares():
            if many == 1 and size > 2:
                self.assertEqual(plane_told(M), ("plane", size - 1))
            elif many > 1:
                self.assertEqual(plane_told(M), ("points", 0, 1, many))

    def test_planes_renamed(self):
        drawn = Drawn(3)
        for p, row in small_fields():
            M = plane_of(Field(p, row))
            other = renamed(M, drawn.row(M[0]))
            blocks = tuple(other[1][place] for place in drawn.row(M[0]))
            self.assertEqual(plane_told((M[0], blocks)), ("plane", p ** (len(row) - 1)))

    def test_few(self):
        for points in (3, 4, 5, 30, 60):
            self.assertEqual(plane_told(near_pencil(points)), ("few",))
            # The block of many points may stand anywhere.
            M = near_pencil(points)
            self.assertEqual(plane_told((points, M[1][1:] + M[1][:1])), ("few",))
        for points in range(1, 60):
            self.assertEqual(plane_told(plain_layout(points, [range(points)])), ("few",))
            self.assertEqual(plane_told(plain_layout(points, [range(points), [points - 1]])), ("few",))

    def test_planes_with_a_block_more_or_less_or_other(self):
        words = set()
        for p, row in small_fields()[:6]:
            M = plane_of(Field(p, row))
            for place in (0, 1, M[0] // 2, M[0] - 1):
                less = M[1][:place] + M[1][place + 1:]
                words.add(self.check((M[0], less)))
                words.add(self.check((M[0], M[1] + (M[1][place],))))
                words.add(self.check((M[0], M[1] + ((place,),))))
                words.add(self.check((M[0], M[1][:place] + ((),) + M[1][place:])))
                words.add(self.check((M[0], less + (M[1][place][1:],))))
                words.add(self.check((M[0] + 1, M[1])))
        self.assertEqual(words, {"points", "blocks"})

    def test_every_layout_of_few_points_and_blocks(self):
        words = set()
        for points, most in ((1, 5), (2, 4), (3, 4), (4, 3)):
            sets = [block for size in range(points + 1) for block in itertools.combinations(range(points), size)]
            for many in range(most + 1):
                for blocks in itertools.product(sets, repeat=many):
                    words.add(self.check((points, blocks)))
        self.assertEqual(words, {"points", "blocks", "few"})

    def test_every_way_to_lay_each_two_points_in_one_block(self):
        words = []
        for points in range(1, 8):
            for blocks in linear_spaces(points):
                words.append(self.check((points, tuple(blocks))))
        # Of seven points there are 30 planes; all else has few points or blocks that don't meet.
        self.assertEqual(words.count("plane"), 30)
        self.assertEqual(set(words), {"plane", "blocks", "few"})

    def test_drawn_ones(self):
        for M in drawn_layouts():
            self.check(M)
            self.check(complement(M))
        for M, many in even_others():
            self.check(M)


def linear_spaces(points):
    """All lists of blocks of two points or more that have each two points just once."""
    def grown(blocks, apart):
        if not apart:
            yield blocks
            return
        first = min(apart)
        others = [x for x in range(first[1] + 1, points)]
        for many in range(len(others) + 1):
            for more in itertools.combinations(others, many):
                block = first + more
                pairs = set(itertools.combinations(block, 2))
                if pairs <= apart:
                    yield from grown(blocks + [block], apart - pairs)
    return grown([], set(itertools.combinations(range(points), 2)))


class Unchanged(unittest.TestCase):
    def test_fields_and_layouts_stay_and_what_is_told_stays_the_same(self):
        for p, row in small_fields():
            field = Field(p, row)
            kept = copy.deepcopy(vars(field))
            for ask in (plane_of, flat_of):
                M = ask(field)
                self.assertEqual(ask(field), M)
                told = plane_told(M)
                self.assertEqual(plane_told(M), told)
                self.assertEqual(ask(field), M)
            self.assertEqual(vars(field), kept)


if __name__ == "__main__":
    unittest.main()
