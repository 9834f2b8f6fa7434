import copy
import itertools
import unittest

from evenmeet.errors import NoArc, NoMeeting
from evenmeet.fields import Field
from evenmeet.planes import flat_of, plane_of
from evenmeet.sets import arc_told, grown_arc, meeting_told, thinned_set
from tests.things import Drawn, all_blocks, all_layouts, all_sets, drawn_layouts, even_others, even_squares
from tests.things import plain_layout, small_fields

SEVEN = (7, ((0, 1, 3), (1, 2, 4), (2, 3, 5), (3, 4, 6), (0, 4, 5), (1, 5, 6), (0, 2, 6)))


def all_subsets(points):
    return [list(block) for block in all_blocks(points)]


def plain_arc_told(M, points):
    """Point 24's words, step by step."""
    for number, block in enumerate(M[1]):
        for three in itertools.combinations(points, 3):
            if set(three) <= set(block):
                return ("three", number) + three
    return ("arc",)


def plain_meeting_told(M, points):
    for number, block in enumerate(M[1]):
        if not set(block) & set(points):
            return ("missed", number)
    return ("meets",)


def small_layouts():
    """All layouts of one and two points with up to three blocks, and drawn ones of up to six."""
    return all_layouts(1, 3) + all_layouts(2, 3) + [M for M in drawn_layouts() if M[0] <= 6]


def great_layouts():
    """Layouts up to the bounds: planes, flat planes, all sets of a size, drawn ones with blocks of a size."""
    drawn = Drawn(24)
    fields = [Field(p, row) for p, row in small_fields()]
    told = [plane_of(field) for field in fields] + [flat_of(field) for field in fields]
    told += [M for M, k, l in even_squares()] + [M for M, l in even_others()]
    told += [all_sets(9, 3), all_sets(9, 4), all_sets(60, 1), all_sets(20, 2)]
    for points, size, many in itertools.product((9, 30, 60), (2, 3, 5), (5, 50, 200)):
        told.append(plain_layout(points, [drawn.row(points)[:size] for turn in range(many)]))
    return told + drawn_layouts()


class Asked(unittest.TestCase):
    def ask(self, function, M, points):
        """The answer, where neither the layout nor the list is changed by it."""
        kept = copy.deepcopy((M, points))
        told = function(M, points)
        self.assertEqual((M, points), kept)
        self.assertIs(type(told), tuple)
        return told

    def refused(self, error, function, block, M, points):
        kept = copy.deepcopy((M, points))
        with self.assertRaises(error, msg=repr((M, points))) as caught:
            function(M, points)
        self.assertIs(type(caught.exception), error)
        self.assertIs(type(caught.exception.block), int)
        self.assertEqual(caught.exception.block, block, (M, points))
        self.assertEqual((M, points), kept)

    def check_rising(self, points):
        self.assertIs(type(points), list)
        self.assertTrue(all(type(point) is int for point in points))
        self.assertTrue(all(a < b for a, b in zip(points, points[1:])), points)


class Arcs(Asked):
    def check(self, M, points):
        told = self.ask(arc_told, M, points)
        self.assertEqual(told, plain_arc_told(M, points), (M, points))
        self.assertEqual([type(part) for part in told[1:]], [int] * (len(told) - 1))
        if told == ("arc",):
            self.check_grown(M, points)
        else:
            self.refused(NoArc, grown_arc, told[1], M, points)
        return told[0]

    def check_grown(self, M, points):
        told = self.ask(grown_arc, M, points)
        self.assertEqual(len(told), 2)
        arc, shown = told
        self.check_rising(arc)
        self.assertTrue(set(points) <= set(arc) <= set(range(M[0])))
        self.assertTrue(all(len(set(block) & set(arc)) < 3 for block in M[1]), (M, arc))
        self.assertIs(type(shown), list)
        self.assertEqual([part[0] for part in shown], [point for point in range(M[0]) if point not in arc])
        for part in shown:
            self.assertIs(type(part), tuple)
            self.assertEqual([type(number) for number in part], [int] * 4)
            point, block, a, b = part
            self.assertLess(a, b)
            self.assertTrue(0 <= block < len(M[1]))
            self.assertTrue({point, a, b} <= set(M[1][block]), (M, part))
            self.assertTrue({a, b} <= set(arc))

    def test_known_ones(self):
        self.assertEqual(arc_told(SEVEN, []), ("arc",))
        self.assertEqual(arc_told(SEVEN, [0, 1, 2]), ("arc",))
        self.assertEqual(arc_told(SEVEN, [0, 1, 3]), ("three", 0, 0, 1, 3))
        self.assertEqual(arc_told(SEVEN, [0, 1, 2, 6]), ("three", 6, 0, 2, 6))
        self.assertEqual(arc_told(SEVEN, list(range(7))), ("three", 0, 0, 1, 3))
        self.assertEqual(arc_told((5, ()), [0, 1, 2, 3, 4]), ("arc",))
        self.assertEqual(arc_told((5, ((), (0, 1), (1, 2, 3, 4), (0, 1, 2))), [1, 2, 3, 4]), ("three", 2, 1, 2, 3))
        self.assertEqual(arc_told((5, ((), (0, 1), (1, 2, 3, 4), (0, 1, 2))), [0, 1, 2, 4]), ("three", 2, 1, 2, 4))
        self.assertEqual(arc_told((5, ((), (0, 1), (1, 2, 3, 4), (0, 1, 2))), [0, 1, 2]), ("three", 3, 0, 1, 2))

    def test_known_grown_ones(self):
        self.assertEqual(grown_arc((1, ()), []), ([0], []))
        self.assertEqual(grown_arc((3, ()), [1]), ([0, 1, 2], []))
        self.assertEqual(grown_arc((3, ((), (0, 1), (1, 2))), []), ([0, 1, 2], []))
        self.assertEqual(grown_arc((3, ((0, 1), (0, 1, 2))), [1, 2]), ([1, 2], [(0, 1, 1, 2)]))
        self.assertEqual(grown_arc((3, ((0, 1), (0, 1, 2))), [0, 2]), ([0, 2], [(1, 1, 0, 2)]))
        self.assertEqual(len(grown_arc(SEVEN, [])[0]), 4)
        self.refused(NoArc, grown_arc, 0, SEVEN, [0, 1, 3])
        self.refused(NoArc, grown_arc, 6, SEVEN, [0, 1, 2, 6])

    def test_all_sets_of_points_of_small_layouts(self):
        words = [self.check(M, points) for M in small_layouts() for points in all_subsets(M[0])]
        self.assertEqual(set(words), {"arc", "three"})

    def test_all_sets_of_points_of_known_layouts(self):
        for M in (SEVEN, all_sets(6, 3), all_sets(5, 2), flat_of(Field(3, (0, 1))), (8, ()), all_sets(7, 6)):
            for points in all_subsets(M[0]):
                self.check(M, points)

    def test_great_layouts(self):
        drawn = Drawn(240)
        words = []
        for M in great_layouts():
            for size in (0, 1, 2, 3, 4, 6, 9):
                words.append(self.check(M, sorted(drawn.row(M[0])[:size])))
        self.assertEqual(set(words), {"arc", "three"})

    def test_grown_anew_it_stays(self):
        for M in great_layouts():
            arc = grown_arc(M, [])[0]
            self.assertEqual(grown_arc(M, arc)[0], arc)

    def test_the_told_lists_are_the_askers_own(self):
        M = (4, ((0, 1, 2), (1, 2, 3)))
        points = [1, 2]
        told = grown_arc(M, points)
        self.assertEqual(told, ([1, 2], [(0, 0, 1, 2), (3, 1, 1, 2)]))
        told[0].append(3)
        told[1].clear()
        self.assertEqual(points, [1, 2])
        self.assertEqual(grown_arc(M, points), ([1, 2], [(0, 0, 1, 2), (3, 1, 1, 2)]))
        full = grown_arc((2, ()), [0, 1])
        full[0].clear()
        self.assertEqual(grown_arc((2, ()), [0, 1]), ([0, 1], []))


class MeetingSets(Asked):
    def check(self, M, points):
        told = self.ask(meeting_told, M, points)
        self.assertEqual(told, plain_meeting_told(M, points), (M, points))
        self.assertEqual([type(part) for part in told[1:]], [int] * (len(told) - 1))
        if told == ("meets",):
            self.check_thinned(M, points)
        else:
            self.refused(NoMeeting, thinned_set, told[1], M, points)
        return told[0]

    def check_thinned(self, M, points):
        told = self.ask(thinned_set, M, points)
        self.assertEqual(len(told), 2)
        kept, shown = told
        self.check_rising(kept)
        self.assertTrue(set(kept) <= set(points))
        self.assertTrue(all(set(block) & set(kept) for block in M[1]), (M, kept))
        self.assertIs(type(shown), list)
        self.assertEqual([part[0] for part in shown], kept)
        for part in shown:
            self.assertIs(type(part), tuple)
            self.assertEqual([type(number) for number in part], [int] * 2)
            point, block = part
            self.assertTrue(0 <= block < len(M[1]))
            self.assertEqual(set(M[1][block]) & set(kept), {point}, (M, part))

    def test_known_ones(self):
        self.assertEqual(meeting_told(SEVEN, [0, 1, 3]), ("meets",))
        self.assertEqual(meeting_told(SEVEN, [0, 1, 2]), ("missed", 3))
        self.assertEqual(meeting_told(SEVEN, []), ("missed", 0))
        self.assertEqual(meeting_told((3, ()), []), ("meets",))
        self.assertEqual(meeting_told((3, ()), [0, 2]), ("meets",))
        self.assertEqual(meeting_told((3, ((0,), (), (1, 2))), [0, 1, 2]), ("missed", 1))
        self.assertEqual(meeting_told((3, ((0,), (1, 2), ())), [0]), ("missed", 1))
        self.assertEqual(meeting_told((3, ((0,), (1, 2), (0, 2))), [0, 2]), ("meets",))

    def test_known_thinned_ones(self):
        self.assertEqual(thinned_set((3, ()), [0, 1, 2]), ([], []))
        self.assertEqual(thinned_set((3, ()), []), ([], []))
        self.assertEqual(thinned_set((3, ((0,), (1, 2), (0, 2))), [0, 1]), ([0, 1], [(0, 0), (1, 1)]))
        self.assertEqual(thinned_set((3, ((0, 1), (1, 2), (1,))), [0, 1, 2]), ([1], [(1, 0)]))
        self.assertEqual(len(thinned_set(SEVEN, list(range(7)))[0]), 3)
        self.refused(NoMeeting, thinned_set, 3, SEVEN, [0, 1, 2])
        self.refused(NoMeeting, thinned_set, 1, (3, ((0,), (), (1, 2))), [0, 1, 2])

    def test_all_sets_of_points_of_small_layouts(self):
        words = [self.check(M, points) for M in small_layouts() for points in all_subsets(M[0])]
        self.assertEqual(set(words), {"meets", "missed"})

    def test_all_sets_of_points_of_known_layouts(self):
        for M in (SEVEN, all_sets(6, 3), all_sets(5, 2), flat_of(Field(3, (0, 1))), (8, ()), all_sets(7, 6)):
            for points in all_subsets(M[0]):
                self.check(M, points)

    def test_great_layouts(self):
        drawn = Drawn(250)
        words = []
        for M in great_layouts():
            for less in (0, 1, 2, 5, M[0] // 2, M[0]):
                words.append(self.check(M, sorted(drawn.row(M[0])[less:])))
        self.assertEqual(set(words), {"meets", "missed"})

    def test_thinned_anew_it_stays(self):
        for M in great_layouts():
            if () not in M[1]:
                kept = thinned_set(M, list(range(M[0])))[0]
                self.assertEqual(thinned_set(M, kept)[0], kept)

    def test_the_told_lists_are_the_askers_own(self):
        M = (3, ((0,), (1, 2)))
        points = [0, 2]
        told = thinned_set(M, points)
        self.assertEqual(told, ([0, 2], [(0, 0), (2, 1)]))
        told[0].append(3)
        told[1].clear()
        self.assertEqual(points, [0, 2])
        self.assertEqual(thinned_set(M, points), ([0, 2], [(0, 0), (2, 1)]))


if __name__ == "__main__":
    unittest.main()
