import unittest

from mowfloor.rings import next_round, ring, ring_turns
from mowfloor.trees import some_tree
from mowfloor.walks import is_walk, turns
from tests.samples import (
    RING, all_trees, block_fields, drawn_block_fields, drawn_text, drawn_tree, is_plain, of_blocks, rectangle,
    steps_by_words,
)


def next_by_words(some, tree, cell):
    """By the words of the rule, in the block that has the cell."""
    row, column = [block for block in some if 0 <= cell[0] - block[0] <= 1 and 0 <= cell[1] - block[1] <= 1][0]
    a, b, c, d = (row, column), (row, column + 1), (row + 1, column + 1), (row + 1, column)
    up = ((row - 2, column), (row, column)) in tree
    right = ((row, column), (row, column + 2)) in tree
    down = ((row, column), (row + 2, column)) in tree
    left = ((row, column - 2), (row, column)) in tree
    if cell == a:
        return (row - 1, column) if up else b
    if cell == b:
        return (row, column + 2) if right else c
    if cell == c:
        return (row + 2, column + 1) if down else d
    return (row + 1, column - 1) if left else a


def turns_by_words(some, tree):
    """4, and for each block 2 for each two branches of which one leads up or down and one to a side."""
    found = 4
    for block in some:
        upright = [branch for branch in tree if block in branch and branch[0][1] == branch[1][1]]
        sideways = [branch for branch in tree if block in branch and branch[0][0] == branch[1][0]]
        found += 2 * len(upright) * len(sideways)
    return found


def fields_with_trees():
    """(field, blocks, tree): for some_tree, and for other trees."""
    found = []
    for field, some in block_fields() + drawn_block_fields():
        found.extend((field, some, tree) for tree in [some_tree(field), drawn_tree(some, 1), drawn_tree(some, 2)])
    for coarse in [rectangle(2, 2), rectangle(2, 3), RING]:
        some = tuple((1 + 2 * row, 2 * column) for row, column in coarse)
        found.extend((of_blocks(coarse, 1, 0), some, tree) for tree in all_trees(some))
    return found


class NextRound(unittest.TestCase):
    def test_in_one_block(self):
        for top, left in [(0, 0), (0, 1), (1, 0), (4, 7), (29, 29)]:
            a, b, d, c = rectangle(2, 2, top, left)
            for one, other in [(a, b), (b, c), (c, d), (d, a)]:
                self.assertEqual(next_round((a, b, d, c), (), one), other)

    def test_where_branches_lead_all_four_ways(self):
        field = of_blocks(drawn_text("#.#\n...\n#.#\n"), 1, 1)
        tree = (((1, 3), (3, 3)), ((3, 1), (3, 3)), ((3, 3), (3, 5)), ((3, 3), (5, 3)))
        for one, other in [
            ((3, 3), (2, 3)), ((2, 3), (1, 3)), ((1, 3), (1, 4)), ((1, 4), (2, 4)), ((2, 4), (3, 4)),
            ((3, 4), (3, 5)), ((3, 5), (3, 6)), ((3, 6), (4, 6)), ((4, 6), (4, 5)), ((4, 5), (4, 4)),
            ((4, 4), (5, 4)), ((5, 4), (6, 4)), ((6, 4), (6, 3)), ((6, 3), (5, 3)), ((5, 3), (4, 3)),
            ((4, 3), (4, 2)), ((4, 2), (4, 1)), ((4, 1), (3, 1)), ((3, 1), (3, 2)), ((3, 2), (3, 3)),
        ]:
            self.assertEqual(next_round(field, tree, one), other)

    def test_blocks_beside_one_another_without_a_branch(self):
        field = rectangle(4, 4)
        tree = (((0, 0), (0, 2)), ((0, 0), (2, 0)), ((0, 2), (2, 2)))
        self.assertEqual(next_round(field, tree, (2, 1)), (3, 1))
        self.assertEqual(next_round(field, tree, (3, 2)), (2, 2))
        self.assertEqual(next_round(field, tree, (0, 1)), (0, 2))
        self.assertEqual(next_round(field, tree, (1, 1)), (2, 1))
        self.assertEqual(next_round(field, tree, (2, 3)), (3, 3))

    def test_by_the_words_of_the_rule(self):
        for field, some, tree in fields_with_trees():
            for cell in field:
                self.assertEqual(next_round(field, tree, cell), next_by_words(some, tree, cell))

    def test_from_each_cell_on_to_each_just_once_and_home(self):
        for field, some, tree in fields_with_trees():
            behind = dict((cell, next_round(field, tree, cell)) for cell in field)
            for start in field[::5] + field[-1:]:
                met = [start]
                while len(met) < len(field):
                    met.append(behind[met[-1]])
                self.assertEqual(sorted(met), list(field))
                self.assertEqual(behind[met[-1]], start)


class Ring(unittest.TestCase):
    def test_one_block(self):
        self.assertEqual(ring(rectangle(2, 2), ()), ((0, 0), (0, 1), (1, 1), (1, 0)))
        self.assertEqual(ring(rectangle(2, 2, 29, 28), ()), ((29, 28), (29, 29), (30, 29), (30, 28)))

    def test_two_blocks(self):
        self.assertEqual(
            ring(rectangle(2, 4), (((0, 0), (0, 2)),)),
            ((0, 0), (0, 1), (0, 2), (0, 3), (1, 3), (1, 2), (1, 1), (1, 0)),
        )
        self.assertEqual(
            ring(rectangle(4, 2, 1, 1), (((1, 1), (3, 1)),)),
            ((1, 1), (1, 2), (2, 2), (3, 2), (4, 2), (4, 1), (3, 1), (2, 1)),
        )

    def test_where_the_least_cell_is_not_the_leftmost(self):
        field = of_blocks(drawn_text("##.\n#..\n..#\n"))
        walk = ring(field, some_tree(field))
        self.assertEqual(walk[:3], ((0, 4), (0, 5), (1, 5)))
        self.assertEqual(sorted(walk), list(field))

    def test_each_cell_once_and_home(self):
        for field, some, tree in fields_with_trees():
            walk = ring(field, tree)
            self.assertTrue(type(walk) is tuple and is_plain(walk))
            self.assertEqual(walk[0], min(field))
            self.assertEqual(sorted(walk), list(field))
            self.assertIs(is_walk(field, walk), True)
            self.assertEqual(len(steps_by_words(field, walk + walk[:1])), len(field))
            for one, other in zip(walk, walk[1:] + walk[:1]):
                self.assertEqual(next_by_words(some, tree, one), other)
            self.assertEqual(next_round(field, tree, walk[-1]), walk[0])
            self.assertEqual(ring(tuple(list(field)), tuple(list(tree))), walk)

    def test_all_of_900_cells(self):
        field = rectangle(30, 30)
        walk = ring(field, some_tree(field))
        self.assertEqual(sorted(walk), list(field))
        self.assertEqual(next_round(field, some_tree(field), walk[-1]), walk[0])


class RingTurns(unittest.TestCase):
    def test_some(self):
        self.assertEqual(ring_turns(rectangle(2, 2), ()), 4)
        self.assertEqual(ring_turns(rectangle(2, 2, 3, 3), ()), 4)
        for many in range(2, 16):
            self.assertEqual(ring_turns(rectangle(2, 2 * many), some_tree(rectangle(2, 2 * many))), 4)
            self.assertEqual(ring_turns(rectangle(2 * many, 2), some_tree(rectangle(2 * many, 2))), 4)
        bent = of_blocks(drawn_text("..\n.#\n"))
        self.assertEqual(ring_turns(bent, some_tree(bent)), 6)
        three = of_blocks(drawn_text("...\n#.#\n"))
        self.assertEqual(ring_turns(three, some_tree(three)), 8)
        four = of_blocks(drawn_text("#.#\n...\n#.#\n"))
        self.assertEqual(ring_turns(four, some_tree(four)), 12)
        self.assertEqual(ring_turns(rectangle(4, 4), (((0, 0), (0, 2)), ((0, 0), (2, 0)), ((0, 2), (2, 2)))), 8)

    def test_by_the_words_and_by_the_walk(self):
        for field, some, tree in fields_with_trees():
            walk = ring(field, tree)
            told = ring_turns(field, tree)
            self.assertIs(type(told), int)
            self.assertEqual(told, turns_by_words(some, tree))
            self.assertEqual(told, turns(walk + walk[:2]))
            self.assertEqual(told, ring_turns(field, tree))
