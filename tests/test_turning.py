import copy
import fractions
import itertools
import unittest

from evenmeet.counts import pairs_told
from evenmeet.errors import NoBases
from evenmeet.layouts import renamed
from evenmeet.turning import developed, differences, turns_told
from tests.things import Drawn, EqualToAll, LayoutCase, all_blocks, all_layouts, drawn_layouts, no_wholes
from tests.things import plain_layout


def plain_developed(n, bases):
    """Point 20's words, step by step."""
    blocks = []
    for base in bases:
        for number in range(n):
            blocks.append([x + number - n if x + number >= n else x + number for x in base])
    return plain_layout(n, blocks)


def plain_differences(n, bases):
    """Point 21's words, step by step."""
    less = [a - b for base in bases for a in base for b in base if a != b]
    return [less.count(d) + less.count(d - n) for d in range(1, n)]


def plain_turned(points, block):
    return tuple(sorted(0 if point == points - 1 else point + 1 for point in block))


def plain_turns(M):
    """Point 22's words, step by step."""
    blocks = list(M[1])
    for number, block in enumerate(blocks):
        if blocks.count(plain_turned(M[0], block)) < blocks.count(block):
            return ("stays", number)
    told = []
    for block in blocks:
        least = block
        for turn in range(M[0]):
            block = plain_turned(M[0], block)
            least = min(least, block)
        if (least, blocks.count(least)) not in told:
            told.append((least, blocks.count(least)))
    return ("turns", sorted(told))


def drawn_bases(drawn, n, most=3):
    """Lists and tuples in any order, as many as 200 blocks and the most allow."""
    many = drawn.below(min(most, 200 // n) + 1)
    bases = [drawn.block(n) for turn in range(many)]
    return [tuple(base) if drawn.below(2) else base for base in bases]


def even_bases():
    """Tuples (n, bases, how often two points come) with all differences alike."""
    told = [(7, [[0, 1, 3]], 1), (13, [[9, 0, 3, 1]], 1), (11, [(1, 3, 4, 5, 9)], 2), (7, [[0, 1, 3], (6, 5, 3)], 2)]
    told += [(13, [[0, 1, 4], [0, 2, 7]], 1), (5, [[0, 1], [0, 2]], 1), (4, [[0, 1], [0, 1], [0, 2]], 2)]
    told += [(21, [(3, 6, 7, 12, 14)], 1), (57, [[0, 1, 3, 13, 32, 36, 43, 52]], 1), (9, [list(range(9))], 9)]
    told += [(2, [[0, 1]], 2), (2, [], 0), (60, [], 0), (60, [[]], 0), (60, [[31], [], (4,)], 0), (3, [[2]] * 66, 0)]
    told += [(60, [range(60)], 60), (60, [range(59)] * 3, 174)]
    return [(n, [tuple(base) for base in bases], often) for n, bases, often in told]


class Developed(LayoutCase):
    def check(self, n, bases):
        kept = copy.deepcopy(bases)
        told = developed(n, bases)
        self.check_is_layout(told)
        self.assertEqual(told, plain_developed(n, bases))
        self.assertEqual(bases, kept)
        self.assertEqual([type(base) for base in bases], [type(base) for base in kept])

    def test_known_ones(self):
        self.assertEqual(developed(3, [[0, 1]]), (3, ((0, 1), (1, 2), (0, 2))))
        self.assertEqual(developed(3, [[1, 0]]), (3, ((0, 1), (1, 2), (0, 2))))
        self.assertEqual(developed(3, [(2,), [], [0, 2, 1]])[1][:4], ((2,), (0,), (1,), ()))
        self.assertEqual(developed(4, [[2, 0]]), (4, ((0, 2), (1, 3), (0, 2), (1, 3))))
        self.assertEqual(developed(1, [[0], [], (0,)]), (1, ((0,), (), (0,))))
        self.assertEqual(developed(1, []), (1, ()))
        self.assertEqual(developed(60, []), (60, ()))
        seven = ((0, 1, 3), (1, 2, 4), (2, 3, 5), (3, 4, 6), (0, 4, 5), (1, 5, 6), (0, 2, 6))
        self.assertEqual(developed(7, [[0, 1, 3]]), (7, seven))

    def test_all_bases_of_few_numbers(self):
        for n in range(1, 6):
            for size in range(n + 1):
                for base in itertools.permutations(range(n), size):
                    self.check(n, [list(base)])
                    self.check(n, [base])

    def test_each_order_of_bases(self):
        for bases in itertools.permutations(([4, 0, 1], (), [2], (3, 0))):
            self.check(5, list(bases))

    def test_drawn_ones(self):
        drawn = Drawn(20)
        for n in range(1, 61):
            self.check(n, [])
            self.check(n, [[]])
            self.check(n, [(n - 1,), list(reversed(range(n)))])
            for turn in range(5):
                self.check(n, drawn_bases(drawn, n))

    def test_200_blocks_are_told(self):
        drawn = Drawn(200)
        for n in (1, 2, 4, 5, 8, 10, 20, 25, 40, 50):
            bases = [drawn.block(n) for turn in range(200 // n)]
            self.assertEqual(len(developed(n, bases)[1]), 200)
            self.check(n, bases)
            self.assertEqual(differences(n, bases), plain_differences(n, bases))
        self.check(60, [drawn.block(60) for turn in range(3)])

    def test_what_is_changed_behind_it_changes_nothing(self):
        base = [1, 0]
        bases = [base, (2,), base]
        told = developed(3, bases)
        counts = differences(3, bases)
        base.append(2)
        bases.append([])
        self.assertEqual(told, (3, ((0, 1), (1, 2), (0, 2), (2,), (0,), (1,), (0, 1), (1, 2), (0, 2))))
        self.assertEqual(counts, [2, 2])
        counts.clear()
        self.assertEqual(differences(3, [[1, 0], (2,), [1, 0]]), [2, 2])


class NotBases(unittest.TestCase):
    def refused(self, place, n, bases):
        # Whole copies can't be compared: some of the things are equal to all others.
        kept = list(bases)
        parts = [list(base) if isinstance(base, (list, tuple)) else None for base in bases]
        for ask in (developed, differences):
            with self.assertRaises(NoBases, msg=repr((n, bases))) as caught:
                ask(n, bases)
            self.assertIs(type(caught.exception), NoBases)
            self.assertIs(type(caught.exception.place), type(place), (n, bases))
            self.assertEqual(caught.exception.place, place, (n, bases))
        self.assertEqual(len(bases), len(kept))
        for base, old, old_parts in zip(bases, kept, parts):
            self.assertIs(base, old)
            if old_parts is not None:
                self.assertEqual(len(base), len(old_parts))
                self.assertTrue(all(a is b for a, b in zip(base, old_parts)))

    def test_a_number_that_is_none_from_1_to_60(self):
        numbers = [0, 61, 62, -1, -7, -60, 10 ** 6, -10 ** 6, 1.0, 60.0, fractions.Fraction(7), EqualToAll()]
        for n in no_wholes() + numbers:
            for bases in ([], [[]], [[0]], [[0, 1, 3]], [[0, 0]], [None], [[0], [99]]):
                self.refused(None, n, bases)

    def test_too_many_blocks(self):
        for n in (1, 2, 3, 7, 13, 50, 59, 60):
            many = 200 // n + 1
            for bases in ([[]] * many, [(0,)] * many, [[0]] * (many + 5), [list(range(n))] * many):
                self.refused(None, n, bases)
                developed(n, bases[:many - 1])

    def no_numbers(self, n):
        numbers = [-1, -n, n, n + 1, 10 ** 6, -10 ** 6, 0.0, 1.0, 0j, fractions.Fraction(0), EqualToAll()]
        return no_wholes() + numbers

    def test_a_thing_that_is_no_number_from_0_on_below_n(self):
        for n in (1, 2, 7, 60):
            for thing in self.no_numbers(n):
                self.refused(0, n, [[thing]])
                self.refused(0, n, [(thing,)])
                self.refused(1, n, [[0], [thing], [thing]])
                self.refused(2, n, [(), [0], (0, thing)])
                self.refused(0, n, [[thing, 0], [0]])
                self.refused(0, n, [[thing, thing]])
                if n > 2:
                    self.refused(1, n, [[0, 1, 2], [2, thing, 1]])

    def test_a_number_twice(self):
        self.refused(0, 1, [[0, 0]])
        self.refused(1, 3, [(0, 1), (1, 0, 1)])
        self.refused(2, 3, [[], [2, 1, 0], [2, 0, 1, 2], [0, 0]])
        self.refused(2, 60, [[59, 3], [], [59, 3, 59]])
        self.refused(199, 1, [[0]] * 199 + [[0, 0]])
        self.refused(0, 60, [list(range(60)) + [31]])

    def test_a_base_of_another_kind(self):
        others = [None, True, 0, 3, -1, 1.0, "", "01", b"", b"\x00", {}, {0: 0}, set(), {0, 1}, range(2), frozenset()]
        others += [iter([0]), object(), int, EqualToAll()]
        for n in (2, 7, 60):
            for thing in others:
                self.refused(0, n, [thing])
                self.refused(1, n, [[0], thing, [n]])
                self.refused(2, n, [[0], (1,), thing])

    def test_faults_go_in_the_order_in_which_they_are_told(self):
        for n in (0, 61, -3, True, False, None, "3", 3.0):
            self.refused(None, n, [[0, 0], [99], None])
            self.refused(None, n, [[0, 0]] * 201)
        self.refused(None, 3, [[7]] + [[0]] * 66)
        self.refused(None, 3, [[0]] * 66 + [[1, 1]])
        self.refused(None, 60, [None, "", [60], [0, 0]])
        self.refused(0, 3, [[0, 0], [3]])
        self.refused(0, 3, [[3], [0, 0]])
        self.refused(1, 3, [[0], [0, 0], [True]])
        self.refused(1, 3, [[0], [True], [0, 0]])
        self.refused(1, 3, [[0], None, [0, 0]])
        self.refused(1, 3, [[0], [-1], None])

    def test_each_single_fault_in_drawn_bases(self):
        drawn = Drawn(201)
        for turn in range(200):
            n = 1 + drawn.below(30)
            bases = [drawn.block(n) for turn in range(1 + drawn.below(4))]
            place = drawn.below(len(bases))
            base = bases[place]
            base.insert(drawn.below(len(base) + 1), base[0] if base and turn % 2 else n)
            bases[place + 1:] = [drawn.block(n + 1) for turn in range(2)]
            self.refused(place, n, bases)


class Differences(unittest.TestCase):
    def check(self, n, bases):
        kept = copy.deepcopy(bases)
        told = differences(n, bases)
        self.assertIs(type(told), list)
        self.assertEqual([type(count) for count in told], [int] * (n - 1))
        self.assertEqual(told, plain_differences(n, bases), (n, bases))
        self.assertEqual(bases, kept)
        return told

    def check_even(self, n, bases):
        told = self.check(n, bases)
        pairs = pairs_told(developed(n, bases))
        if told == told[:1] * (n - 1):
            self.assertEqual(pairs, ("same", told[0]), (n, bases))
        else:
            self.assertEqual(pairs[0], "unlike", (n, bases))
        return pairs[0]

    def test_known_ones(self):
        self.assertEqual(differences(7, [[0, 1, 3]]), [1, 1, 1, 1, 1, 1])
        self.assertEqual(differences(7, [[3, 1, 0]]), [1, 1, 1, 1, 1, 1])
        self.assertEqual(differences(5, [[0, 1]]), [1, 0, 0, 1])
        self.assertEqual(differences(4, [[0, 2]]), [0, 2, 0])
        self.assertEqual(differences(4, [(0, 2), [1, 2]]), [1, 2, 1])
        self.assertEqual(differences(3, [[], (1,)]), [0, 0])
        self.assertEqual(differences(2, []), [0])

    def test_an_empty_list_where_n_is_1(self):
        for bases in ([], [[]], [[0]], [(0,), [], [0]], [[0]] * 200):
            self.assertEqual(differences(1, bases), [])

    def test_all_bases_of_few_numbers_and_each_two(self):
        words = []
        for n in range(2, 6):
            sets = all_blocks(n)
            words += [self.check_even(n, [list(base)]) for base in sets]
            words += [self.check_even(n, [one, other]) for one in sets[::3] for other in sets]
        self.assertEqual(set(words), {"same", "unlike"})

    def test_even_ones(self):
        for n, bases, often in even_bases():
            self.assertEqual(differences(n, bases), [often] * (n - 1))
            self.assertEqual(self.check_even(n, bases), "same")

    def test_drawn_ones(self):
        drawn = Drawn(21)
        for n in range(2, 61):
            for turn in range(3):
                self.check_even(n, drawn_bases(drawn, n))

    def test_turned_bases_have_the_same(self):
        drawn = Drawn(22)
        for n in (2, 5, 12, 31):
            bases = [drawn.block(n) for turn in range(4)]
            turned = [[(x + 3 * place) % n for x in base] for place, base in enumerate(bases)]
            self.assertEqual(differences(n, bases), differences(n, turned))


def layouts_that_turn():
    drawn = Drawn(220)
    told = [plain_developed(n, drawn_bases(drawn, n)) for n in range(1, 61) for turn in range(2)]
    told += [plain_developed(n, bases) for n, bases, often in even_bases()]
    # Short turned ones, once each: blocks that come to themselves before n turns.
    told += [(4, ((0, 2), (1, 3))), (4, ((1, 3), (0, 2))), (6, ((0, 3), (1, 4), (2, 5))), (6, ((0, 2, 4), (1, 3, 5)))]
    told += [(6, ((1, 3, 5), (2, 5), (0, 3), (0, 2, 4), (1, 4))), (5, ((0, 1, 2, 3, 4),)), (5, ((),)), (1, ((0,), ()))]
    told += [(4, ((0, 2), (), (1, 3), (0, 1, 2, 3), (1, 3), (), (0, 2), ()))]
    told += [(points, ()) for points in (1, 2, 9, 60)]
    return told


class TurnsTold(unittest.TestCase):
    def check(self, M):
        kept = copy.deepcopy(M)
        told = turns_told(M)
        self.assertEqual(M, kept)
        self.assertIs(type(told), tuple)
        self.assertEqual(told, plain_turns(M), M)
        self.assertEqual([type(part) for part in told], [str, list if told[0] == "turns" else int])
        if told[0] == "turns":
            self.check_bases(M, told[1])
        return told[0]

    def check_bases(self, M, bases):
        blocks = []
        for part in bases:
            self.assertIs(type(part), tuple)
            base, often = part
            self.assertIs(type(base), tuple)
            self.assertIs(type(often), int)
            unlike = set(plain_developed(M[0], [base])[1])
            self.assertEqual(base, min(unlike))
            blocks += list(unlike) * often
        self.assertEqual(sorted(blocks), sorted(M[1]))
        self.assertEqual(bases, sorted(bases))
        self.assertEqual(len(bases), len(set(base for base, often in bases)))

    def test_known_ones(self):
        self.assertEqual(turns_told(developed(7, [[0, 1, 3]])), ("turns", [((0, 1, 3), 1)]))
        self.assertEqual(turns_told(developed(7, [[6, 5, 3]])), ("turns", [((0, 1, 5), 1)]))
        self.assertEqual(turns_told((3, ())), ("turns", []))
        self.assertEqual(turns_told((3, ((), ()))), ("turns", [((), 2)]))
        self.assertEqual(turns_told((4, ((0, 2), (1, 3)))), ("turns", [((0, 2), 1)]))
        self.assertEqual(turns_told(developed(4, [[1, 3]])), ("turns", [((0, 2), 2)]))
        self.assertEqual(turns_told((1, ((0,), (), (0,)))), ("turns", [((), 1), ((0,), 2)]))
        both = developed(3, [[0, 1, 2], [1], [], [0]])
        self.assertEqual(turns_told(both), ("turns", [((), 3), ((0,), 2), ((0, 1, 2), 3)]))
        self.assertEqual(turns_told((2, ((0,),))), ("stays", 0))
        self.assertEqual(turns_told((2, ((0,), (1,), (1,)))), ("stays", 1))
        self.assertEqual(turns_told((2, ((0,), (1,), (0,)))), ("stays", 0))
        self.assertEqual(turns_told((3, ((), (0, 1, 2), (0, 1), (1, 2)))), ("stays", 3))
        self.assertEqual(turns_told((4, ((0, 2), (1, 3), (1, 3)))), ("stays", 1))

    def test_all_layouts_of_few_points_and_blocks(self):
        words = []
        for M in all_layouts(1, 5) + all_layouts(2, 5) + all_layouts(3, 4):
            words.append(self.check(M))
        self.assertEqual(set(words), {"turns", "stays"})

    def test_layouts_that_turn(self):
        for M in layouts_that_turn():
            self.assertEqual(self.check(M), "turns")

    def test_they_turn_with_blocks_in_any_order_and_points_renamed_by_turning(self):
        drawn = Drawn(221)
        for M in layouts_that_turn():
            blocks = tuple(M[1][place] for place in drawn.row(len(M[1])))
            step = drawn.below(M[0])
            other = renamed((M[0], blocks), [(point + step) % M[0] for point in range(M[0])])
            self.assertEqual(self.check(other), "turns")
            self.assertEqual(turns_told(other), turns_told(M))

    def test_one_block_left_out_or_told_once_more(self):
        drawn = Drawn(222)
        for M in layouts_that_turn():
            if M[1]:
                place = drawn.below(len(M[1]))
                alone = plain_turned(M[0], M[1][place]) == M[1][place]
                word = "turns" if alone else "stays"
                self.assertEqual(self.check((M[0], M[1][:place] + M[1][place + 1:])), word)
                self.assertEqual(self.check((M[0], M[1] + (M[1][place],))), word)

    def test_drawn_ones(self):
        for M in drawn_layouts():
            self.check(M)

    def test_what_is_done_to_the_told_changes_nothing(self):
        M = developed(3, [[0]])
        told = turns_told(M)
        told[1].clear()
        self.assertEqual(turns_told(M), ("turns", [((0,), 1)]))


if __name__ == "__main__":
    unittest.main()
