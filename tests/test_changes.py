import copy
import itertools
import unittest

from evenmeet.changes import at_block, at_point, complement, dual, off_block, off_point
from evenmeet.counts import count_of, degrees, pairs_told
from evenmeet.errors import NoDual, NoPart
from tests.things import EqualToAll, LayoutCase, all_sets, developed_by, drawn_layouts, no_wholes
from tests.things import even_others, even_squares

FANO = developed_by(7, (0, 1, 3))


def duals():
    return [M for M in drawn_layouts() if 1 <= len(M[1]) <= 60]


def some_numbers(many):
    """All numbers below many where it is small, else some with both ends."""
    return range(many) if many < 14 else (0, 1, many // 2, many - 2, many - 1)


def some_pairs(points):
    return list(itertools.combinations(some_numbers(points), 2))


class Complement(LayoutCase):
    def test_known_ones(self):
        self.assertEqual(complement((3, ((0, 1), (), (0, 1, 2), (1,)))), (3, ((2,), (0, 1, 2), (), (0, 2))))
        self.assertEqual(complement((1, ())), (1, ()))
        self.assertEqual(complement((1, ((0,), ()))), (1, ((), (0,))))
        self.assertEqual(complement((60, ((),))), (60, (tuple(range(60)),)))
        self.assertEqual(complement(FANO)[1][0], (2, 4, 5, 6))

    def test_each_block_has_the_points_that_it_had_not(self):
        for M in drawn_layouts():
            told = complement(M)
            self.check_is_layout(told)
            self.assertEqual(told[0], M[0])
            self.assertEqual(len(told[1]), len(M[1]))
            for block, old in zip(told[1], M[1]):
                self.assertEqual(set(block), set(range(M[0])) - set(old))

    def test_turned_back(self):
        for M in drawn_layouts():
            self.assertEqual(complement(complement(M)), M)


class Dual(LayoutCase):
    def test_known_ones(self):
        self.assertEqual(dual((3, ((0, 1), (), (0, 1, 2), (1,)))), (4, ((0, 2), (0, 2, 3), (2,))))
        self.assertEqual(dual((1, ((),))), (1, ((),)))
        self.assertEqual(dual((2, ((1,),))), (1, ((), (0,))))
        self.assertEqual(dual((60, ((3,),))), (1, ((),) * 3 + ((0,),) + ((),) * 56))

    def test_each_block_has_the_numbers_of_the_points_blocks(self):
        for M in duals():
            told = dual(M)
            self.check_is_layout(told)
            self.assertEqual(told[0], len(M[1]))
            self.assertEqual(len(told[1]), M[0])
            for point in range(M[0]):
                for number in range(len(M[1])):
                    self.assertEqual(number in told[1][point], point in M[1][number])

    def test_turned_back(self):
        for M in duals():
            self.assertEqual(dual(dual(M)), M)

    def test_degrees_become_sizes(self):
        for M in duals():
            self.assertEqual([len(block) for block in dual(M)[1]], degrees(M))
            self.assertEqual(degrees(dual(M)), [len(block) for block in M[1]])

    def test_up_to_sixty_blocks(self):
        for many in (1, 2, 59, 60):
            self.assertEqual(dual((2, ((1,),) * many)), (many, ((), tuple(range(many)))))

    def test_refused(self):
        for M in ((1, ()), (60, ()), (1, ((0,),) * 61), (60, ((),) * 61), (2, ((0, 1),) * 200)):
            with self.assertRaises(NoDual, msg=repr(M)) as caught:
                dual(M)
            self.assertIs(type(caught.exception), NoDual)


class Parts(LayoutCase):
    def check(self, told, left, blocks):
        """told has the points left, numbered anew, and of these blocks what is left of them."""
        self.check_is_layout(told)
        self.assertEqual(told[0], len(left))
        back = [tuple(left[point] for point in block) for block in told[1]]
        self.assertEqual(back, [tuple(point for point in block if point in left) for block in blocks])

    def test_known_ones(self):
        M = (4, ((0, 1), (1, 3), (), (0, 2, 3), (1, 2, 3), (1, 3)))
        self.assertEqual(at_point(M, 1), (3, ((0,), (2,), (1, 2), (2,))))
        self.assertEqual(off_point(M, 1), (3, ((), (0, 1, 2))))
        self.assertEqual(at_point(M, 0), (3, ((0,), (1, 2))))
        self.assertEqual(off_point(M, 3), (3, ((0, 1), ())))
        self.assertEqual(at_block(M, 1), (2, ((0,), (), (1,), (0, 1), (0, 1))))
        self.assertEqual(off_block(M, 1), (2, ((0,), (), (0, 1), (1,), ())))
        self.assertEqual(at_block(M, 3), (3, ((0,), (2,), (), (1, 2), (2,))))
        self.assertEqual(off_block(M, 3), (1, ((0,), (0,), (), (0,), (0,))))
        self.assertEqual(off_block(M, 2), (4, M[1][:2] + M[1][3:]))
        self.assertEqual(at_point((2, ((0,), (0, 1), (1,))), 0), (1, ((), (0,))))
        self.assertEqual(off_point((2, ((0,),)), 0), (1, ()))
        self.assertEqual(at_block((1, ((0,),)), 0), (1, ()))
        self.assertEqual(off_block((1, ((),)), 0), (1, ()))

    def test_at_and_off_each_point(self):
        for M in drawn_layouts():
            for p in some_numbers(M[0]):
                if M[0] > 1:
                    left = [point for point in range(M[0]) if point != p]
                    self.check(at_point(M, p), left, [block for block in M[1] if p in block])
                    self.check(off_point(M, p), left, [block for block in M[1] if p not in block])

    def test_at_and_off_each_block(self):
        for M in drawn_layouts():
            for b in some_numbers(len(M[1])):
                others = [block for number, block in enumerate(M[1]) if number != b]
                outside = [point for point in range(M[0]) if point not in M[1][b]]
                if M[1][b]:
                    self.check(at_block(M, b), M[1][b], others)
                if outside:
                    self.check(off_block(M, b), outside, others)

    def test_a_block_that_is_alike_stays(self):
        M = (3, ((0, 2),) * 3)
        for b in range(3):
            self.assertEqual(at_block(M, b), (2, ((0, 1), (0, 1))))
            self.assertEqual(off_block(M, b), (1, ((), ())))

    def refused(self, ask, M, number):
        kept = copy.deepcopy(number) if isinstance(number, (list, dict)) else number
        with self.assertRaises(NoPart, msg=repr((ask, M, number))) as caught:
            ask(M, number)
        self.assertIs(type(caught.exception), NoPart)
        if isinstance(number, (list, dict)):
            self.assertEqual(number, kept)

    def test_numbers_that_are_no_points(self):
        for M in (FANO, (2, ((0, 1), (0,))), (60, ()), (1, ((0,),))):
            things = no_wholes() + [-1, -M[0], M[0], M[0] + 1, 10 ** 6, -10 ** 6, 0.0, 1.0, (0, 1), EqualToAll()]
            for ask in (at_point, off_point):
                for thing in things:
                    self.refused(ask, M, thing)

    def test_numbers_that_are_no_blocks(self):
        for M in (FANO, (9, ((0, 1), (2,))), (3, ()), (60, ((0,),) * 200)):
            many = len(M[1])
            things = no_wholes() + [-1, -many - 1, many, many + 1, 10 ** 6, -10 ** 6, 0.0, 1.0, (0, 1), EqualToAll()]
            for ask in (at_block, off_block):
                for thing in things:
                    self.refused(ask, M, thing)

    def test_where_no_point_would_be_left(self):
        for M in ((1, ()), (1, ((0,),)), (1, ((), (0,)))):
            self.refused(at_point, M, 0)
            self.refused(off_point, M, 0)
        M = (3, ((0,), (), (0, 1, 2), (1, 2)))
        self.refused(at_block, M, 1)
        self.refused(off_block, M, 2)
        self.assertEqual(at_block(M, 2), (3, ((0,), (), (1, 2))))
        self.assertEqual(off_block(M, 1), (3, ((0,), (0, 1, 2), (1, 2))))


class Following(unittest.TestCase):
    """Point 12: the counts of two points, a and b, in what a layout is changed into."""

    def layouts(self):
        return drawn_layouts() + [told[0] for told in even_squares() + even_others()]

    def test_in_the_complement(self):
        for M in self.layouts():
            told = complement(M)
            counts = degrees(M)
            for a, b in some_pairs(M[0]):
                both = count_of(M, [a, b])
                self.assertEqual(count_of(told, [a, b]), len(M[1]) - counts[a] - counts[b] + both)

    def test_at_and_off_a_point(self):
        for M in self.layouts():
            for p in some_numbers(M[0]):
                for a, b in some_pairs(M[0]):
                    if p not in (a, b):
                        anew = [a - (a > p), b - (b > p)]
                        three = count_of(M, [a, b, p])
                        self.assertEqual(count_of(at_point(M, p), anew), three)
                        self.assertEqual(count_of(off_point(M, p), anew), count_of(M, [a, b]) - three)

    def test_at_a_block_that_has_both(self):
        found = 0
        for M in self.layouts():
            for number in some_numbers(len(M[1])):
                block = M[1][number]
                for a, b in itertools.combinations(block[:4] + block[-2:], 2):
                    if a < b:
                        found += 1
                        anew = [block.index(a), block.index(b)]
                        self.assertEqual(count_of(at_block(M, number), anew), count_of(M, [a, b]) - 1)
        self.assertGreater(found, 500)

    def test_off_a_block_that_has_neither(self):
        found = 0
        for M in self.layouts():
            for number in some_numbers(len(M[1])):
                outside = [point for point in range(M[0]) if point not in M[1][number]]
                for a, b in itertools.combinations(outside[:4] + outside[-2:], 2):
                    if a < b:
                        found += 1
                        anew = [outside.index(a), outside.index(b)]
                        self.assertEqual(count_of(off_block(M, number), anew), count_of(M, [a, b]))
        self.assertGreater(found, 500)


class Even(unittest.TestCase):
    """Point 13, and what follows of even layouts from point 12."""

    def test_each_two_blocks_have_so_many_points_in_common(self):
        for M, size, many in even_squares():
            self.assertEqual((pairs_told(M), len(M[1])), (("same", many), M[0]))
            self.assertTrue(all(len(block) == size for block in M[1]) and size > many >= 1)
            for one, other in itertools.combinations(M[1], 2):
                self.assertEqual(len(set(one) & set(other)), many)

    def test_the_dual_is_even(self):
        for M, size, many in even_squares():
            told = dual(M)
            self.assertEqual(told[0], M[0])
            self.assertEqual(pairs_told(told), ("same", many))
            self.assertEqual(degrees(told), [size] * M[0])

    def test_the_complement_is_even(self):
        for M, size, many in even_squares():
            self.assertEqual(pairs_told(complement(M)), ("same", M[0] - 2 * size + many))

    def test_off_and_at_a_block_of_an_even_layout(self):
        for M, size, many in even_squares():
            for b in (0, M[0] - 1):
                self.assertEqual(pairs_told(at_block(M, b)), ("same", many - 1))
                self.assertEqual({len(block) for block in at_block(M, b)[1]}, {many})
                if M[0] - size > 1:
                    self.assertEqual(pairs_told(off_block(M, b)), ("same", many))
                self.assertEqual({len(block) for block in off_block(M, b)[1]}, {size - many})

    def test_at_and_off_a_point_of_all_sets(self):
        self.assertEqual(at_point(all_sets(6, 3), 5), all_sets(5, 2))
        self.assertEqual(off_point(all_sets(6, 3), 5), all_sets(5, 3))
        for p in range(6):
            self.assertEqual(sorted(at_point(all_sets(6, 3), p)[1]), sorted(all_sets(5, 2)[1]))
            self.assertEqual(sorted(off_point(all_sets(6, 3), p)[1]), sorted(all_sets(5, 3)[1]))


class Unchanged(unittest.TestCase):
    def test_the_layout_that_is_handed_in_stays(self):
        for M in duals():
            kept = copy.deepcopy(M)
            complement(M)
            dual(M)
            for ask in (at_point, off_point, at_block, off_block):
                try:
                    first = ask(M, 0)
                except NoPart:
                    continue
                self.assertEqual(ask(M, 0), first)
            self.assertEqual(M, kept)


if __name__ == "__main__":
    unittest.main()
