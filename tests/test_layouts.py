import copy
import fractions
import itertools
import unittest

from evenmeet.errors import NoLayout, NoRow
from evenmeet.layouts import layout_of, renamed, sorted_layout
from tests.things import Drawn, EqualToAll, LayoutCase, drawn_layouts, even_squares, no_wholes, plain_layout


def no_points(points):
    """Things that are no point of so many: whole numbers, things equal to points, other kinds."""
    numbers = [-1, -2, points, points + 1, 10 ** 6, -10 ** 6]
    return no_wholes() + numbers + [0.0, 1.0, 0j, fractions.Fraction(0), EqualToAll()]


class Made(LayoutCase):
    def check(self, points, blocks):
        kept = copy.deepcopy(blocks)
        told = layout_of(points, blocks)
        self.check_is_layout(told)
        self.assertEqual(told, plain_layout(points, blocks))
        self.assertEqual(blocks, kept)
        return told

    def test_known_ones(self):
        self.assertEqual(layout_of(3, [[1, 0], [], [2, 0, 1]]), (3, ((0, 1), (), (0, 1, 2))))
        self.assertEqual(layout_of(1, []), (1, ()))
        self.assertEqual(layout_of(1, [[0], [], [0]]), (1, ((0,), (), (0,))))
        self.assertEqual(layout_of(4, [[3], [0], [3]]), (4, ((3,), (0,), (3,))))

    def test_each_order_of_a_blocks_points(self):
        for block in itertools.permutations((0, 2, 3, 5)):
            self.assertEqual(layout_of(6, [list(block)]), (6, ((0, 2, 3, 5),)))

    def test_blocks_keep_their_places(self):
        for blocks in itertools.permutations(([2, 1], [], [0], [1, 2], [2, 1, 0])):
            self.check(3, list(blocks))

    def test_all_numbers_of_points_and_blocks(self):
        for points in range(1, 61):
            self.check(points, [list(range(points)), [], [points - 1], [points - 1, 0][:points]])
        for many in range(201):
            self.check(5, [[4, many % 4]] * many)

    def test_drawn_ones(self):
        drawn = Drawn(3)
        for points in (1, 2, 3, 7, 20, 59, 60):
            for many in (0, 1, 9, 199, 200):
                self.check(points, drawn.blocks(points, many))

    def test_what_is_changed_behind_it_changes_nothing(self):
        one = [2, 0]
        blocks = [one, [1], one]
        told = layout_of(3, blocks)
        one.append(1)
        blocks[1][0] = 2
        blocks.append([])
        self.assertEqual(told, (3, ((0, 2), (1,), (0, 2))))
        self.assertEqual(layout_of(3, [[2, 0], [1], [2, 0]]), told)


class NotMade(unittest.TestCase):
    def refused(self, place, points, blocks):
        kept = [list(block) for block in blocks]
        with self.assertRaises(NoLayout, msg=repr((points, blocks))) as caught:
            layout_of(points, blocks)
        self.assertIs(type(caught.exception), NoLayout)
        self.assertIs(type(caught.exception.place), type(place), (points, blocks))
        self.assertEqual(caught.exception.place, place, (points, blocks))
        self.assertEqual([len(block) for block in blocks], [len(block) for block in kept])
        for block, old in zip(blocks, kept):
            self.assertTrue(all(a is b for a, b in zip(block, old)))

    def test_a_number_that_is_none_from_1_to_60(self):
        for number in no_wholes() + [0, 61, 62, -1, -60, 10 ** 6, -10 ** 6, 1.0, 60.0, [3], (3,)]:
            for blocks in ([], [[]], [[0]], [[0], [1, 2]]):
                self.refused(None, number, blocks)

    def test_too_many_blocks(self):
        for points in (1, 2, 60):
            for many in (201, 202, 400):
                self.refused(None, points, [[]] * many)
                self.refused(None, points, [[0]] * many)

    def test_a_thing_that_is_no_point(self):
        for points in (1, 2, 7, 60):
            for thing in no_points(points):
                self.refused(0, points, [[thing]])
                self.refused(1, points, [[0], [thing], [thing]])
                self.refused(2, points, [[], [0], [0, thing]])
                self.refused(0, points, [[thing, 0], [0]])
                self.refused(0, points, [[thing, thing]])
                self.refused(199, points, [[0]] * 199 + [[thing]])
                if points > 2:
                    self.refused(1, points, [[0, 1, 2], [2, thing, 1]])

    def test_a_point_twice(self):
        self.refused(0, 1, [[0, 0]])
        self.refused(1, 3, [[0, 1], [1, 0, 1]])
        self.refused(2, 3, [[], [2, 1, 0], [2, 0, 1, 2], [0, 0]])
        self.refused(0, 60, [[59, 3, 59]])
        self.refused(199, 60, [[59, 3]] * 199 + [[4, 4]])
        self.refused(0, 60, [list(range(60)) + [31]])

    def test_each_single_fault_in_a_drawn_layout(self):
        drawn = Drawn(11)
        for turn in range(200):
            points = 1 + drawn.below(60)
            blocks = drawn.blocks(points, 1 + drawn.below(20))
            place = drawn.below(len(blocks))
            block = blocks[place]
            block.insert(drawn.below(len(block) + 1), block[0] if block and turn % 2 else points)
            blocks[place + 1:] = drawn.blocks(points + 1, 3)
            self.refused(place, points, blocks)

    def test_faults_go_in_the_order_in_which_they_are_told(self):
        for number in (0, 61, True, None, "3", 3.0):
            self.refused(None, number, [[0, 0], [99]])
            self.refused(None, number, [[0, 0]] * 201)
        self.refused(None, 3, [[7]] + [[0]] * 200)
        self.refused(None, 3, [[0]] * 200 + [[1, 1]])
        self.refused(0, 3, [[0, 0], [3]])
        self.refused(0, 3, [[3], [0, 0]])
        self.refused(1, 3, [[0], [0, 0], [True]])
        self.refused(1, 3, [[0], [True], [0, 0]])


class Sorted(LayoutCase):
    def test_known_ones(self):
        M = (3, ((1,), (0, 2), (), (0, 1, 2), (0, 2)))
        self.assertEqual(sorted_layout(M), (3, ((), (0, 1, 2), (0, 2), (0, 2), (1,))))
        self.assertEqual(sorted_layout((12, ((10,), (9,), (2,), (0, 11)))), (12, ((0, 11), (2,), (9,), (10,))))
        self.assertEqual(sorted_layout((5, ())), (5, ()))

    def test_blocks_are_in_order_and_as_often(self):
        for M in drawn_layouts():
            told = sorted_layout(M)
            self.check_is_layout(told)
            self.assertEqual(told[0], M[0])
            self.assertTrue(all(a <= b for a, b in zip(told[1], told[1][1:])))
            self.assertEqual(len(told[1]), len(M[1]))
            for block in M[1]:
                self.assertEqual(told[1].count(block), M[1].count(block))
            self.assertEqual(sorted_layout(told), told)

    def test_each_order_of_the_blocks_is_sorted_alike(self):
        for blocks in itertools.permutations(((0, 1), (0,), (), (0, 1), (1, 2))):
            self.assertEqual(sorted_layout((3, blocks)), (3, ((), (0,), (0, 1), (0, 1), (1, 2))))


class Renamed(LayoutCase):
    def check(self, M, row):
        kept = list(row)
        told = renamed(M, row)
        self.check_is_layout(told)
        self.assertEqual(row, kept)
        self.assertEqual(told[0], M[0])
        self.assertEqual(len(told[1]), len(M[1]))
        for block, old in zip(told[1], M[1]):
            self.assertEqual(len(block), len(old))
            for point in range(M[0]):
                self.assertEqual(row[point] in block, point in old)
        turned = [row.index(point) for point in range(M[0])]
        self.assertEqual(renamed(told, turned), M)
        return told

    def test_known_ones(self):
        M = (3, ((0, 1), (), (1, 2), (0, 1, 2), (0,)))
        self.assertEqual(renamed(M, [1, 2, 0]), (3, ((1, 2), (), (0, 2), (0, 1, 2), (1,))))
        self.assertEqual(renamed(M, [2, 0, 1]), (3, ((0, 2), (), (0, 1), (0, 1, 2), (2,))))
        self.assertEqual(renamed(M, [0, 1, 2]), M)
        self.assertEqual(renamed((1, ((0,), ())), [0]), (1, ((0,), ())))

    def test_all_rows_of_four_points(self):
        M = (4, ((1, 3), (0, 2, 3), (), (1, 3), (0, 1, 2, 3), (2,)))
        for row in itertools.permutations(range(4)):
            self.check(M, list(row))

    def test_drawn_ones(self):
        drawn = Drawn(5)
        for M in drawn_layouts():
            self.check(M, drawn.row(M[0]))

    def test_a_row_that_is_changed_later_changes_nothing(self):
        row = [1, 0]
        told = renamed((2, ((0,),)), row)
        row[0] = 0
        self.assertEqual(told, (2, ((1,),)))

    def refused(self, M, row):
        kept = list(row) if isinstance(row, list) else None
        with self.assertRaises(NoRow, msg=repr((M, row))) as caught:
            renamed(M, row)
        self.assertIs(type(caught.exception), NoRow)
        if kept is not None:
            self.assertEqual(len(row), len(kept))
            self.assertTrue(all(a is b for a, b in zip(row, kept)))

    def test_things_of_another_kind_are_no_rows(self):
        for M in ((1, ()), (3, ((0, 1),)), (6, ((),)), (2, ((0, 1), (1,)))):
            points = range(M[0])
            things = [tuple(points), points, dict.fromkeys(points, 0), dict(zip(points, points)), set(points)]
            things += ["".join(str(point) for point in points), bytes(points), iter(list(points)), EqualToAll()]
            for thing in no_wholes() + things:
                self.refused(M, thing)

    def test_rows_with_a_point_less_or_more(self):
        for points in (1, 2, 3, 60):
            M = (points, ((0,),))
            row = list(range(points))
            for thing in ([], row[1:], row[:-1], row + [points], row + [0], [points - 1] + row, row + row):
                self.refused(M, thing)

    def test_rows_with_a_thing_that_is_no_point_or_stands_twice(self):
        for points in (1, 2, 3, 60):
            M = (points, ((), (0,)))
            for thing in no_points(points):
                for place in sorted({0, points // 2, points - 1}):
                    row = list(range(points))
                    row[place] = thing
                    self.refused(M, row)
        self.refused((2, ()), [0, 0])
        self.refused((2, ()), [False, True])
        self.refused((2, ()), [0, True])
        self.refused((3, ((0,),)), [2, 1, 2])
        self.refused((3, ((0,),)), [0, 1, 1])
        self.refused((60, ()), list(range(59)) + [0])


class Unchanged(unittest.TestCase):
    def test_the_layout_that_is_handed_in_stays(self):
        for M in drawn_layouts() + [told[0] for told in even_squares()]:
            kept = copy.deepcopy(M)
            sorted_layout(M)
            renamed(M, list(reversed(range(M[0]))))
            self.assertEqual(M, kept)


if __name__ == "__main__":
    unittest.main()
