import copy
import itertools
import unittest

from evenmeet.classes import no_classes, parted
from evenmeet.fields import Field
from evenmeet.nets import net_of
from evenmeet.planes import flat_of
from tests.things import Drawn, EqualToAll, all_layouts, all_sets, no_wholes, plain_layout

EMPTY = (None, ())


def plain_parts(M):
    """Whether all blocks can be parted into classes: by going through all ways to give each block a class."""
    many, rest = divmod(sum(len(block) for block in M[1]), M[0])
    if () in M[1] or rest:
        return False
    for rows in itertools.product(range(many), repeat=len(M[1])):
        had = sorted((row, point) for row, block in zip(rows, M[1]) for point in block)
        if had == list(itertools.product(range(many), range(M[0]))):
            return True
    return False


def many_ways(M):
    return (sum(len(block) for block in M[1]) // M[0]) ** len(M[1])


def plain_tree(M, left=None, had=frozenset()):
    """Point 26's words, step by step: the tree, or None where the blocks are parted."""
    if () in M[1]:
        return EMPTY
    left = list(range(len(M[1]))) if left is None else left
    if len(had) in (0, M[0]):
        if not left:
            return None
        return plain_tree(M, left[1:], frozenset(M[1][left[0]]))
    point = min(point for point in range(M[0]) if point not in had)
    sons = []
    for block in left:
        if point in M[1][block] and not had & set(M[1][block]):
            tree = plain_tree(M, [other for other in left if other != block], had | set(M[1][block]))
            if tree is None:
                return None
            sons.append((block, tree))
    return (point, tuple(sons))


def drawn_parts(drawn, points, many):
    """The blocks of so many classes, each a drawn parting of the points."""
    blocks = []
    for turn in range(many):
        row = drawn.row(points)
        while row:
            size = 1 + drawn.below(len(row))
            blocks.append(row[:size])
            row = row[size:]
    return blocks


def in_drawn_order(drawn, blocks):
    return [blocks[place] for place in drawn.row(len(blocks))]


def layouts_that_part():
    drawn = Drawn(26)
    told = [(1, ()), (9, ()), (1, ((0,),)), (1, ((0,),) * 12), (9, (tuple(range(9)),)), (9, (tuple(range(9)),) * 12)]
    told += [(2, ((0,),) * 6 + ((1,),) * 6), (3, ((0, 1), (2,)) * 6), all_sets(4, 2), (6, all_sets(6, 1)[1] * 2)]
    told += [flat_of(Field(2, (0, 1))), flat_of(Field(3, (0, 1))), net_of([((0, 1, 2), (1, 2, 0), (2, 0, 1))])]
    for points in range(1, 10):
        for turn in range(60):
            blocks = drawn_parts(drawn, points, 1 + drawn.below(5))
            if len(blocks) <= 12:
                told.append(plain_layout(points, in_drawn_order(drawn, blocks)))
    return told


def layouts_that_may():
    """Parted ones with a point given to another block, or with a block more or less; and drawn ones."""
    drawn = Drawn(260)
    told = []
    for M in layouts_that_part():
        blocks = [list(block) for block in M[1]]
        if len(blocks) > 1:
            told.append(plain_layout(M[0], blocks[1:]))
            one, other = drawn.row(len(blocks))[:2]
            moved = [point for point in blocks[one] if point not in blocks[other]]
            if moved and len(blocks[one]) > 1:
                blocks[one].remove(moved[0])
                blocks[other].append(moved[0])
                told.append(plain_layout(M[0], blocks))
    for points in range(1, 10):
        for turn in range(40):
            blocks = [block for block in drawn.blocks(points, drawn.below(13)) if block]
            told.append(plain_layout(points, blocks))
            small = [drawn.row(points)[:1 + drawn.below(3)] for turn in range(1 + drawn.below(12))]
            told.append(plain_layout(points, small))
    return told + known_shut()


def known_shut():
    told = [(2, ((0,),)), (2, ((0,), (0,))), (3, ((0, 1), (1, 2), (0, 2))), (2, ((0,),) * 5 + ((1,),) * 7)]
    told += [(2, ((1,),) * 7 + ((0,),) * 5), all_sets(5, 2), (7, ((0, 1, 3), (4, 5, 6)))]
    told += [(4, ((0, 1), (2,), (3,), (0, 2), (1,), (1, 3))), (3, ((0,), (1,), (2,), (0, 1, 2), (0, 1), (1,)))]
    # Each point twice, so as often as two classes have it; but each class leaves a point of each triangle.
    told += [(6, ((0, 1), (1, 2), (0, 2), (3, 4), (4, 5), (3, 5))), (3, ((0, 1), (0, 2), (1, 2)) * 2)]
    return told


def small_layouts():
    """All layouts of one, two and three points with few blocks."""
    return all_layouts(1, 6) + all_layouts(2, 5) + all_layouts(3, 4)


class Parted(unittest.TestCase):
    def check(self, M):
        kept = copy.deepcopy(M)
        told = parted(M)
        self.assertEqual(M, kept)
        self.assertIs(type(told), tuple)
        self.assertEqual(len(told), 2)
        if told[0] == "classes":
            self.check_rows(M, told[1])
        else:
            self.assertEqual(told[0], "shut")
            self.check_tree(told[1])
            self.assertEqual(told[1], plain_tree(M), M)
            self.assertIs(no_classes(M, told[1]), True)
        return told[0]

    def check_rows(self, M, rows):
        self.assertIs(type(rows), list)
        self.assertEqual(rows, sorted(rows))
        self.assertEqual(sorted(block for row in rows for block in row), list(range(len(M[1]))))
        for row in rows:
            self.assertIs(type(row), list)
            self.assertEqual(row, sorted(row))
            self.assertTrue(all(type(block) is int for block in row))
            self.assertEqual(sorted(point for block in row for point in M[1][block]), list(range(M[0])))

    def check_tree(self, tree):
        self.assertEqual([type(tree), type(tree[1])], [tuple, tuple])
        self.assertIn(type(tree[0]), (int, type(None)))
        for son in tree[1]:
            self.assertIs(type(son), tuple)
            self.assertIs(type(son[0]), int)
            self.check_tree(son[1])

    def test_known_ones(self):
        self.assertEqual(parted((3, ((0,), (1,), (2,)))), ("classes", [[0, 1, 2]]))
        self.assertEqual(parted((3, ((0, 1), (0,), (2,), (1, 2)))), ("classes", [[0, 2], [1, 3]]))
        self.assertEqual(parted((3, ((2,), (0, 1, 2), (0, 1)))), ("classes", [[0, 2], [1]]))
        self.assertEqual(parted((4, ((2, 3), (1,), (0,)))), ("classes", [[0, 1, 2]]))
        self.assertEqual(parted((1, ((0,),) * 3)), ("classes", [[0], [1], [2]]))
        self.assertEqual(parted((2, ((0,),))), ("shut", (1, ())))
        self.assertEqual(parted((2, ((1,),))), ("shut", (0, ())))
        self.assertEqual(parted((2, ((0, 1), (0,)))), ("shut", (1, ())))
        self.assertEqual(parted((2, ((0,), (1,), (0,)))), ("shut", (1, ((1, (1, ())),))))
        self.assertEqual(parted((2, ((0,), (1,), (1,)))), ("shut", (1, ((1, (0, ())), (2, (0, ()))))))
        self.assertEqual(parted((3, ((0,), (0, 1, 2), (2,), (1,), (1, 2)))),
                         ("shut", (1, ((3, (2, ((2, (0, ())),))), (4, (0, ()))))))

    def test_no_blocks(self):
        for points in range(1, 10):
            self.assertEqual(parted((points, ())), ("classes", []))

    def test_an_empty_block(self):
        for M in ((1, ((),)), (1, ((0,), ())), (3, ((), (0, 1, 2))), (2, ((0,), (), (1,))), (9, ((), ()))):
            self.assertEqual(parted(M), ("shut", EMPTY))

    def test_blocks_several_times(self):
        self.assertEqual(parted((2, ((0,), (1,), (0,), (1,))))[0], "classes")
        self.assertEqual(parted((2, ((0, 1),) * 4)), ("classes", [[0], [1], [2], [3]]))
        self.assertEqual(parted((2, ((0,), (0,)))), ("shut", (1, ())))

    def test_all_small_layouts(self):
        words = []
        for M in small_layouts():
            words.append(self.check(M))
            self.assertEqual(words[-1] == "classes", plain_parts(M), M)
        self.assertEqual(set(words), {"classes", "shut"})

    def test_layouts_that_part(self):
        told = layouts_that_part()
        self.assertGreater(len(told), 300)
        for M in told:
            self.assertEqual(self.check(M), "classes", M)

    def test_layouts_that_are_shut(self):
        for M in known_shut():
            self.assertEqual(self.check(M), "shut", M)

    def test_against_all_ways_where_they_are_few(self):
        words = []
        for M in layouts_that_may():
            word = self.check(M)
            if many_ways(M) <= 2000:
                self.assertEqual(word == "classes", plain_parts(M), M)
                words.append(word)
        self.assertGreater(words.count("classes"), 20)
        self.assertGreater(words.count("shut"), 200)

    def test_the_told_lists_are_the_askers_own(self):
        M = (2, ((0,), (1,), (0, 1)))
        told = parted(M)
        for row in told[1]:
            row.clear()
        told[1].append([])
        self.assertEqual(parted(M), ("classes", [[0, 1], [2]]))
        none = parted((2, ()))
        none[1].append([0])
        self.assertEqual(parted((2, ())), ("classes", []))


def put_in(things, place, thing):
    return things[:place] + (thing,) + things[place + 1:]


def other_things(thing):
    """Things of other kinds, also equal ones; of nought and one the truths too."""
    told = no_wholes() + [EqualToAll(), str(thing), float(thing), [thing], (thing,), -1, thing + 1, 10 ** 6]
    return told + [thing == 1] if thing in (0, 1) else told


def changed_trees(M, tree):
    """Trees with one thing of the tree changed: at each place of it, but of many sons the first two and the last."""
    point, sons = tree
    told = [(other, sons) for other in other_things(point) + [other for other in range(M[0]) if other != point]]
    told += [list(tree), (point,), tree + ((),), tree + (None,), (sons, point)]
    told += [(point, list(sons)), (point, None), point, sons]
    told += [(point, sons[:place] + sons[place + 1:]) for place in range(len(sons))]
    told += [(point, put_in(sons, place, list(son))) for place, son in enumerate(sons)]
    told += [(point, sons + (son,)) for son in sons[-1:]]
    told += [(point, sons + ((block, (point, ())),)) for block in range(len(M[1]))]
    told += [(point, ((block, (point, ())),) + sons) for block in range(len(M[1]))]
    if len(sons) > 1:
        told += [(point, tuple(reversed(sons))), (point, sons[1:] + sons[:1]), (point, sons[:1] + sons[:1] + sons[2:])]
    for place, (block, son) in list(enumerate(sons))[:2] + list(enumerate(sons))[2:][-1:]:
        told += [(point, put_in(sons, place, (other, son))) for other in other_things(block)]
        told += [(point, put_in(sons, place, thing)) for thing in ((block,), (block, son, ()), (son, block), son, None)]
        told += [(point, put_in(sons, place, (block, other))) for other in changed_trees(M, son)]
    return told


def many_nodes(tree):
    return 1 + sum(many_nodes(son) for block, son in tree[1])


def some_changed(M, tree):
    """Of a great tree, each of whose changed ones takes long to look through, not all."""
    told = changed_trees(M, tree)
    most = 100 + 40000 // many_nodes(tree)
    return told[::1 + len(told) // most]


def nested(depth):
    tree = (0, ())
    for turn in range(depth):
        tree = (0, ((0, tree),))
    return tree


def trees_for(M):
    """Trees as one could draw them for a layout that parts: all told, with some end where a parting is reached."""
    def ended(left, had, end):
        if len(had) in (0, M[0]):
            return end if not left else ended(left[1:], frozenset(M[1][left[0]]), end)
        point = min(set(range(M[0])) - had)
        sons = []
        for block in left:
            if point in M[1][block] and not had & set(M[1][block]):
                others = [other for other in left if other != block]
                sons.append((block, ended(others, had | set(M[1][block]), end)))
        return (point, tuple(sons))
    ends = [(point, ()) for point in range(M[0] + 1)] + [EMPTY, (), None, ("classes", ()), (0,), "shut", True]
    return [ended(list(range(len(M[1]))), frozenset(), end) for end in ends]


class NoClasses(unittest.TestCase):
    def not_taken(self, M, trees):
        for tree in trees:
            self.assertIs(no_classes(M, tree), False, (M, tree))

    def shut_ones(self):
        told = [M for M in known_shut() + layouts_that_may() if plain_tree(M) is not None and () not in M[1]]
        return told[:len(known_shut())] + told[len(known_shut())::4]

    def test_known_ones(self):
        M = (2, ((0,), (1,), (1,)))
        self.assertIs(no_classes(M, (1, ((1, (0, ())), (2, (0, ()))))), True)
        self.not_taken(M, [(1, ((1, (0, ())),)), (1, ((2, (0, ())), (1, (0, ())))), (0, ((1, (0, ())), (2, (0, ()))))])
        self.not_taken(M, [(1, ((True, (0, ())), (2, (0, ())))), (1, ((1, (False, ())), (2, (0, ()))))])
        self.not_taken(M, [(True, ((1, (0, ())), (2, (0, ())))), (1, ((1, (0, [])), (2, (0, ()))))])
        self.not_taken(M, [(1, [(1, (0, ())), (2, (0, ()))]), (1, ([1, (0, ())], (2, (0, ()))))])

    def test_all_small_layouts(self):
        for M in small_layouts():
            tree = plain_tree(M)
            self.assertIs(no_classes(M, tree), tree is not None, M)
            self.assertIs(no_classes(M, EMPTY), () in M[1], M)

    def test_changed_trees_are_not_taken(self):
        many = 0
        for M in self.shut_ones():
            tree = plain_tree(M)
            kept = copy.deepcopy((M, tree))
            self.assertIs(no_classes(M, tree), True)
            trees = some_changed(M, tree)
            self.not_taken(M, trees)
            self.assertEqual((M, tree), kept)
            many += len(trees)
        self.assertGreater(many, 50000)

    def test_trees_of_other_layouts_are_not_taken(self):
        told = self.shut_ones()
        trees = [plain_tree(M) for M in told]
        for M, own in zip(told, trees):
            self.not_taken(M, [tree for tree in trees[::3] if tree != own])

    def test_no_tree_is_taken_of_a_layout_that_parts(self):
        others = [plain_tree(M) for M in known_shut()] + [EMPTY, (0, ()), (1, ())]
        for M in layouts_that_part()[::3] + [(1, ((0,),) * 3), (2, ((0,), (1,)) * 2), flat_of(Field(3, (0, 1)))]:
            self.not_taken(M, others + trees_for(M))

    def test_things_of_any_kind_are_not_taken(self):
        things = no_wholes() + [0, 1, -1, "shut", ("shut", (1, ())), (1,), (1, 2), (1, (2,)), (None, None), (None, ())]
        things += [EqualToAll(), (EqualToAll(), ()), (1, EqualToAll()), (1, (EqualToAll(),)), (1, ((1, EqualToAll()),))]
        things += [nested(depth) for depth in (1, 5, 340)] + [[1, ()], (1, []), (1, {}), (1, ""), ("1", ())]
        for M in ((2, ((0, 1), (0,), (1,), (1,))), (3, ((0, 1), (1, 2), (2,))), (2, ()), (1, ((0,),)), (9, ((8,),))):
            self.not_taken(M, [thing for thing in things if not (type(thing) is tuple and thing == plain_tree(M))])

    def test_with_an_empty_block_one_tree_alone_is_taken(self):
        layouts = [(1, ((),)), (2, ((), (0,))), (2, ((0, 1), ())), (2, ((0,), (), (1,))), (9, ((),) * 12)]
        for M in layouts:
            self.assertIs(no_classes(M, EMPTY), True)
            self.assertIs(no_classes(M, (None, tuple([]))), True)
            self.not_taken(M, no_wholes() + [(), None, (None,), (None, (), ()), [None, ()], (None, []), (None, None)])
            self.not_taken(M, [(0, ()), (1, ()), (False, ()), ("", ()), ((), None)])
            self.not_taken(M, [(None, ((),)), (None, (None,)), (None, ((0, EMPTY),))])
            self.not_taken(M, [EqualToAll(), (EqualToAll(), ()), (None, EqualToAll()), (None, {}), (None, "")])
            self.not_taken(M, [plain_tree((M[0], tuple(block for block in M[1] if block)))])


if __name__ == "__main__":
    unittest.main()
