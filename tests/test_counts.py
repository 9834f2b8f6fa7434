import copy
import itertools
import unittest

from evenmeet.counts import count_of, degrees, flags_told, pairs_told, triples_told
from tests.things import Drawn, all_sets, developed_by, drawn_layouts, even_others, even_squares, plain_layout

FANO = developed_by(7, (0, 1, 3))


def plain_count(M, points):
    return sum(1 for block in M[1] if all(point in block for point in points))


def plain_cases(M, size):
    blocks = [set(block) for block in M[1]]
    cases = itertools.combinations(range(M[0]), size)
    return [(case, sum(map(set(case).issubset, blocks))) for case in cases]


def plain_pairs(M):
    return plain_cases(M, 2)


def plain_triples(M):
    return plain_cases(M, 3)


def plain_flags(M):
    told = []
    for point in range(M[0]):
        beside = set().union(*[set(block) for block in M[1] if point in block])
        for number, block in enumerate(M[1]):
            if point not in block:
                told.append(((point, number), len(beside & set(block))))
    return told


def plain_told(counted):
    """What is told of tuples (case, count) that stand in order."""
    if not counted:
        return ("none",)
    first, many = counted[0]
    others = [(case, count) for case, count in counted if count != many]
    if not others:
        return ("same", many)
    return ("unlike", first, many) + others[0]


class Degrees(unittest.TestCase):
    def test_known_ones(self):
        self.assertEqual(degrees((3, ((0, 1), (), (0, 1, 2), (1,)))), [2, 3, 1])
        self.assertEqual(degrees((4, ())), [0, 0, 0, 0])
        self.assertEqual(degrees((1, ((0,), (), (0,)))), [2])
        self.assertEqual(degrees(FANO), [3] * 7)
        self.assertEqual(degrees((2, ((1,),) * 200)), [0, 200])

    def test_against_plain_going_through(self):
        for M in drawn_layouts():
            told = degrees(M)
            self.assertIs(type(told), list)
            self.assertEqual(told, [sum(1 for block in M[1] if point in block) for point in range(M[0])])

    def test_the_told_list_is_the_askers_own(self):
        for M in (FANO, (3, ()), (1, ((0,),))):
            told = degrees(M)
            kept = list(told)
            told[0] = 99
            told.append(5)
            self.assertEqual(degrees(M), kept)


class CountOf(unittest.TestCase):
    def test_known_ones(self):
        M = (4, ((0, 1), (), (0, 1, 2), (1, 2), (0, 1, 2, 3), (0, 1)))
        self.assertEqual(count_of(M, [0, 1]), 4)
        self.assertEqual(count_of(M, [2, 0]), 2)
        self.assertEqual(count_of(M, [3]), 1)
        self.assertEqual(count_of(M, [3, 2, 1, 0]), 1)
        self.assertEqual(count_of((4, ((0, 1), (2, 3))), [1, 2]), 0)

    def test_of_no_points_all_blocks(self):
        for M in drawn_layouts():
            self.assertEqual(count_of(M, []), len(M[1]))

    def test_a_point_told_twice_is_one(self):
        for M in drawn_layouts():
            for point in (0, M[0] - 1):
                self.assertEqual(count_of(M, [point, point]), degrees(M)[point])
                self.assertEqual(count_of(M, [point, 0, point, 0, 0]), plain_count(M, (point, 0)))

    def test_each_set_of_points_in_each_order(self):
        M = plain_layout(4, Drawn(2).blocks(4, 25))
        for size in range(5):
            for points in itertools.permutations(range(4), size):
                self.assertEqual(count_of(M, list(points)), plain_count(M, points))

    def test_against_plain_going_through(self):
        drawn = Drawn(23)
        for M in drawn_layouts():
            for turn in range(20):
                points = drawn.block(M[0])[:drawn.below(5)]
                kept = list(points)
                told = count_of(M, points)
                self.assertIs(type(told), int)
                self.assertEqual(told, plain_count(M, points))
                self.assertEqual(points, kept)


class ToldCase(unittest.TestCase):
    def check(self, told, counted):
        self.assertEqual(told, plain_told(counted))
        self.assertIs(type(told), tuple)
        if told[0] == "unlike":
            self.assertEqual([type(part) for part in told], [str, tuple, int, tuple, int])
            self.assertEqual(told[2], dict(counted)[told[1]])
            self.assertEqual(told[4], dict(counted)[told[3]])
            self.assertNotEqual(told[2], told[4])
        return told[0]


class Pairs(ToldCase):
    def test_known_ones(self):
        self.assertEqual(pairs_told((1, ((0,), ()))), ("none",))
        self.assertEqual(pairs_told((1, ())), ("none",))
        self.assertEqual(pairs_told((2, ())), ("same", 0))
        self.assertEqual(pairs_told((2, ((0, 1), (0,), (0, 1)))), ("same", 2))
        self.assertEqual(pairs_told(FANO), ("same", 1))
        self.assertEqual(pairs_told((3, ((0, 1),))), ("unlike", (0, 1), 1, (0, 2), 0))
        self.assertEqual(pairs_told((3, ((1, 2),))), ("unlike", (0, 1), 0, (1, 2), 1))
        self.assertEqual(pairs_told((4, ((2, 3), (2, 3)))), ("unlike", (0, 1), 0, (2, 3), 2))
        self.assertEqual(pairs_told((4, ((0, 1), (0, 2), (0, 3), (1, 3)))), ("unlike", (0, 1), 1, (1, 2), 0))

    def test_against_plain_going_through(self):
        words = [self.check(pairs_told(M), plain_pairs(M)) for M in drawn_layouts()]
        self.assertEqual(sorted(set(words)), ["none", "same", "unlike"])

    def test_even_layouts(self):
        for M, size, many in even_squares():
            self.assertEqual(pairs_told(M), ("same", many))
        for M, many in even_others():
            self.assertEqual(pairs_told(M), ("same", many))

    def test_the_first_other_pair_wherever_it_stands(self):
        for pair in itertools.combinations(range(6), 2):
            M = (6, all_sets(6, 2)[1] + (pair,))
            self.check(pairs_told(M), plain_pairs(M))
            self.assertEqual(pairs_told(M)[4 if pair > (0, 1) else 2], 2)


class Triples(ToldCase):
    def test_known_ones(self):
        for M in ((1, ((0,),)), (2, ()), (2, ((0, 1),))):
            self.assertEqual(triples_told(M), ("none",))
        self.assertEqual(triples_told((3, ())), ("same", 0))
        self.assertEqual(triples_told((3, ((0, 1, 2), (0, 1), (0, 1, 2)))), ("same", 2))
        self.assertEqual(triples_told((3, ((0, 1), (0, 2), (1, 2)))), ("same", 0))
        self.assertEqual(triples_told((4, ((0, 1, 2),))), ("unlike", (0, 1, 2), 1, (0, 1, 3), 0))
        self.assertEqual(triples_told((4, ((1, 2, 3),))), ("unlike", (0, 1, 2), 0, (1, 2, 3), 1))
        self.assertEqual(triples_told(FANO), ("unlike", (0, 1, 2), 0, (0, 1, 3), 1))
        self.assertEqual(triples_told(all_sets(8, 4)), ("same", 5))

    def test_eight_points_with_all_triples_once(self):
        lines = [tuple(block) + (7,) for block in FANO[1]]
        others = [tuple(set(range(7)) - set(block)) for block in FANO[1]]
        self.assertEqual(triples_told(plain_layout(8, lines + others)), ("same", 1))

    def test_against_plain_going_through(self):
        words = [self.check(triples_told(M), plain_triples(M)) for M in drawn_layouts()]
        self.assertEqual(sorted(set(words)), ["none", "same", "unlike"])

    def test_the_first_other_triple_wherever_it_stands(self):
        for three in itertools.combinations(range(6), 3):
            M = (6, all_sets(6, 3)[1] + (three,))
            self.check(triples_told(M), plain_triples(M))


class Flags(ToldCase):
    def test_known_ones(self):
        for M in ((1, ()), (4, ()), (1, ((0,), (0,))), (3, ((0, 1, 2),) * 3)):
            self.assertEqual(flags_told(M), ("none",))
        self.assertEqual(flags_told((1, ((),))), ("same", 0))
        self.assertEqual(flags_told((2, ((0,), (1,)))), ("same", 0))
        self.assertEqual(flags_told((3, ((0, 1), (0, 2), (1, 2)))), ("same", 2))
        self.assertEqual(flags_told(FANO), ("same", 3))
        self.assertEqual(flags_told((3, ((0, 1), (1, 2)))), ("same", 1))
        self.assertEqual(flags_told((4, ((0, 1), (1, 2), (2, 3)))), ("unlike", (0, 1), 1, (0, 2), 0))
        self.assertEqual(flags_told((2, ((0, 1), (), (0,)))), ("unlike", (0, 1), 0, (1, 2), 1))

    def test_two_points_in_two_blocks_are_counted_once(self):
        self.assertEqual(flags_told((3, ((0, 1), (0, 1), (1,), (0, 1, 2)))), ("unlike", (0, 2), 1, (2, 0), 2))

    def test_a_grid_of_rows_and_columns(self):
        rows = [[3 * r + c for c in range(3)] for r in range(3)]
        columns = [[3 * r + c for r in range(3)] for c in range(3)]
        self.assertEqual(flags_told(plain_layout(9, rows + columns)), ("same", 1))

    def test_against_plain_going_through(self):
        words = [self.check(flags_told(M), plain_flags(M)) for M in drawn_layouts()]
        self.assertEqual(sorted(set(words)), ["none", "same", "unlike"])

    def test_each_two_blocks_of_four_points(self):
        sets = [block for size in range(5) for block in itertools.combinations(range(4), size)]
        for blocks in itertools.product(sets, repeat=2):
            M = (4, blocks)
            self.check(flags_told(M), plain_flags(M))
            M = (4, blocks + ((0, 2), (1, 2, 3)))
            self.check(flags_told(M), plain_flags(M))


class Unchanged(unittest.TestCase):
    def test_the_layout_stays_and_what_is_told_stays_the_same(self):
        for M in drawn_layouts():
            kept = copy.deepcopy(M)
            for ask in (degrees, pairs_told, triples_told, flags_told):
                self.assertEqual(ask(M), ask(M))
            self.assertEqual(M, kept)


if __name__ == "__main__":
    unittest.main()
