import copy
import itertools
import unittest

from mowfloor.errors import MowError, NoBlocks
from mowfloor.trees import is_tree, some_tree
from tests.samples import (
    HOLES, RING, Thorny, all_trees, block_fields, branches_by_words, comb, drawn_block_fields, drawn_tree,
    hang_together,
    is_plain, junk, nested, of_blocks, rectangle, same,
)

# Four blocks, and one of the four trees that they have.
FIELD = rectangle(4, 4)
TREE = (((0, 0), (0, 2)), ((0, 0), (2, 0)), ((0, 2), (2, 2)))


class IsTree(unittest.TestCase):
    def tree(self, thing, truth, field=FIELD):
        self.assertIs(is_tree(field, thing), truth)

    def test_trees_made_by_hand(self):
        self.tree(TREE, True)
        self.tree((((0, 0), (0, 2)), ((0, 0), (2, 0)), ((2, 0), (2, 2))), True)
        self.tree((((0, 0), (0, 2)), ((0, 2), (2, 2)), ((2, 0), (2, 2))), True)
        self.tree((((0, 0), (2, 0)), ((0, 2), (2, 2)), ((2, 0), (2, 2))), True)
        self.tree((((3, 5), (3, 7)),), True, rectangle(2, 4, 3, 5))
        self.tree((((3, 5), (5, 5)),), True, rectangle(4, 2, 3, 5))

    def test_one_block(self):
        for field in [rectangle(2, 2), rectangle(2, 2, 7, 4), rectangle(2, 2, 29, 29)]:
            self.tree((), True, field)
            self.tree(((),), False, field)
            self.tree([], False, field)
            self.tree((((0, 0), (0, 0)),), False, field)
            self.tree((((0, 0), (0, 2)),), False, field)
            self.tree((field[:2],), False, field)

    def test_trees_spoilt(self):
        for thing in [
            (), TREE[:2], TREE[1:], TREE[:1] + TREE[2:], TREE + (((2, 0), (2, 2)),), TREE + TREE[2:], TREE[:1] + TREE,
            TREE[:2] + TREE[1:2], TREE[:1] + TREE[:1] + TREE[1:2], tuple(reversed(TREE)), (TREE[1], TREE[0], TREE[2]),
            (TREE[0], TREE[2], TREE[1]), (((0, 2), (0, 0)),) + TREE[1:], TREE[:2] + (((2, 2), (0, 2)),),
            TREE[:1] + (((2, 0), (0, 0)),) + TREE[2:], TREE[:1] + TREE[2:] + (((2, 0), (0, 0)),),
            TREE[:2] + (((0, 0), (2, 2)),), TREE[:2] + (((0, 2), (2, 0)),), TREE[:2] + (((0, 2), (0, 4)),),
            TREE[:2] + (((0, 2), (1, 2)),), TREE[:2] + (((0, 2), (3, 2)),), TREE[:2] + (((1, 1), (1, 3)),),
            TREE[:2] + (((0, 2), (0, 2)),), TREE[:2] + (((0, 2), (2, 2), (2, 0)),), TREE[:2] + (((0, 2),),),
            ((0, 0), (0, 2)), (TREE,), (((-2, 0), (0, 0)),) + TREE[:2], (((0, -2), (0, 0)),) + TREE[:2],
        ]:
            self.tree(thing, False)

    def test_two_branches_in_place_of_another(self):
        row = rectangle(2, 6)
        self.tree((((0, 0), (0, 2)), ((0, 2), (0, 4))), True, row)
        self.tree((((0, 0), (0, 2)), ((0, 0), (0, 4))), False, row)
        self.tree((((0, 0), (0, 4)), ((0, 2), (0, 4))), False, row)
        self.tree((((0, 0), (0, 2)), ((0, 2), (0, 4)), ((0, 4), (0, 6))), False, row)

    def test_a_round_of_branches(self):
        field = rectangle(4, 6)
        whole = branches_by_words(((0, 0), (0, 2), (2, 0), (2, 2)))
        self.assertEqual(len(whole), 4)
        self.tree(whole, False)
        self.tree(tuple(sorted(whole + (((0, 4), (2, 4)),))), False, field)
        self.tree(tuple(sorted(whole + (((0, 2), (0, 4)),))), False, field)
        self.tree(tuple(sorted(whole[1:] + (((0, 4), (2, 4)),))), False, field)
        self.tree(tuple(sorted(whole[1:] + (((0, 2), (0, 4)), ((0, 4), (2, 4))))), True, field)
        self.tree(branches_by_words(tuple((2 * row, 2 * column) for row, column in RING)), False, of_blocks(RING))

    def test_all_choices_of_branches(self):
        for coarse in [rectangle(1, 4), rectangle(2, 2), rectangle(2, 3), RING]:
            field = of_blocks(coarse, 1, 2)
            some = tuple((1 + 2 * row, 2 + 2 * column) for row, column in coarse)
            every = branches_by_words(some)
            told = 0
            for many in range(len(every) + 1):
                for thing in itertools.combinations(every, many):
                    wanted = many == len(some) - 1 and hang_together(some, thing)
                    told += wanted
                    self.tree(thing, wanted, field)
            self.assertEqual(told, len(all_trees(some)))

    def test_drawn_trees(self):
        for field, some in block_fields() + drawn_block_fields():
            every = branches_by_words(some)
            for seed in range(2):
                tree = drawn_tree(some, seed)
                self.tree(tree, True, field)
                self.tree(tree[1:], False if tree else True, field)
                for branch in every[::3]:
                    if branch not in tree:
                        self.tree(tuple(sorted(tree + (branch,))), False, field)
                        for other in tree[::4]:
                            spoilt = tuple(sorted(set(tree) - {other} | {branch}))
                            self.tree(spoilt, hang_together(some, spoilt), field)

    def test_a_field_not_of_blocks(self):
        for field in [((0, 0),), rectangle(3, 3), rectangle(1, 4), rectangle(2, 3), RING, HOLES, comb(2), FIELD[:-1]]:
            for thing in [(), TREE, TREE[:1], TREE[:2]]:
                self.tree(thing, False, field)

    def test_a_tree_of_another_field(self):
        self.tree(TREE, False, rectangle(4, 4, 1, 1))
        self.tree(TREE, False, rectangle(4, 4, 2, 0))
        self.tree(TREE, False, rectangle(4, 6))
        self.tree(TREE, False, rectangle(2, 4))
        self.tree((), False)

    def test_lists_and_truths(self):
        self.tree(list(TREE), False)
        for place, (one, other) in enumerate(TREE):
            for branch in [
                [one, other], (list(one), other), (one, list(other)), ((bool(one[0]), one[1]), other),
                ((one[0], float(one[1])), other), (one, (float(other[0]), other[1])), one + other, (one,), None,
            ]:
                self.tree(TREE[:place] + (branch,) + TREE[place + 1:], False)
        odd = rectangle(2, 4, 1, 1)
        self.tree((((1, 1), (1, 3)),), True, odd)
        self.tree((((True, 1), (1, 3)),), False, odd)
        self.tree((((1, True), (1, 3)),), False, odd)
        self.tree((((1, 1), (True, 3)),), False, odd)

    def test_things_of_any_kind(self):
        for thing in junk():
            self.tree(thing, False)
            self.tree((thing,) + TREE[1:], False)
            self.tree(TREE[:2] + (thing,), False)
            self.tree(((thing, (0, 2)),) + TREE[1:], same(thing, (0, 0)))
            self.tree((((thing, 0), (0, 2)),) + TREE[1:], same(thing, 0))
            self.tree((((0, thing), (0, 2)),) + TREE[1:], same(thing, 0))
            self.tree((((0, 0), (thing, 2)),) + TREE[1:], same(thing, 0))
            self.tree(TREE[:2] + (((0, 2), thing),), False)
            self.tree(TREE, False, thing)
            self.tree(thing, False, thing)
        for depth in range(1, 61):
            self.tree(nested(depth, lambda thing: (thing,)), False)
            self.tree(nested(depth, lambda thing: [thing]), False)
            self.tree(nested(depth, lambda thing: (thing, thing)) if depth < 12 else (), False)
        self.tree(Thorny(), False, Thorny())

    def test_nothing_is_changed_and_the_same_is_told(self):
        thing = [list(branch) for branch in TREE]
        ahead = copy.deepcopy(thing)
        self.tree(thing, False)
        self.tree(thing, False)
        self.assertEqual(thing, ahead)
        self.tree(TREE, True)
        self.tree(TREE, True)


class SomeTree(unittest.TestCase):
    def test_one_block(self):
        for field in [rectangle(2, 2), rectangle(2, 2, 7, 4), rectangle(2, 2, 29, 29)]:
            self.assertEqual(some_tree(field), ())

    def test_where_there_is_one_alone(self):
        self.assertEqual(some_tree(rectangle(2, 4)), (((0, 0), (0, 2)),))
        self.assertEqual(some_tree(rectangle(6, 2, 1, 3)), (((1, 3), (3, 3)), ((3, 3), (5, 3))))

    def test_a_tree_by_words_and_by_the_look(self):
        for field, some in block_fields() + drawn_block_fields():
            tree = some_tree(field)
            self.assertTrue(type(tree) is tuple and is_plain(tree))
            self.assertEqual(list(tree), sorted(set(tree)))
            self.assertLessEqual(set(tree), set(branches_by_words(some)))
            self.assertEqual(len(tree), len(some) - 1)
            self.assertTrue(hang_together(some, tree))
            self.assertIs(is_tree(field, tree), True)
            self.assertEqual(some_tree(tuple(list(field))), tree)

    def test_all_of_900_cells(self):
        field = rectangle(30, 30, 1, 0)
        self.assertEqual(len(some_tree(field)), 224)
        self.assertIs(is_tree(field, some_tree(field)), True)

    def test_a_field_not_of_blocks(self):
        for field in [((0, 0),), rectangle(3, 3), rectangle(1, 4), rectangle(2, 3), RING, HOLES, comb(2), FIELD[:-1]]:
            with self.assertRaises(NoBlocks) as caught:
                some_tree(field)
            self.assertIs(type(caught.exception), NoBlocks)
            self.assertIsInstance(caught.exception, MowError)
