import random
import unittest

from mowfloor.errors import Here, MowError, NoBlock
from mowfloor.going import Going
from mowfloor.rings import next_round, ring
from mowfloor.trees import is_tree, some_tree
from tests.samples import (
    RING, Thorny, block_fields, branches_by_words, drawn_block_fields, drawn_text, drawn_tree, hang_together, is_plain,
    junk,
    of_blocks, rectangle, same,
)

ROW = rectangle(2, 10)
ROW_TREE = some_tree(ROW)


def all_told(going):
    return (going.at(), going.mown(), going.field(), going.tree(), going.left(), going.lost())


def blocks_of(field):
    """The blocks of a field of blocks."""
    top, left = field[0]
    return tuple(cell for cell in field if (cell[0] - top) % 2 == 0 and (cell[1] - left) % 2 == 0)


def block_at(field, cell):
    return [block for block in blocks_of(field) if cell in of_blocks(((0, 0),), *block)][0]


def branches_at(tree, block):
    return {branch for branch in tree if block in branch}


def come_to(some, start):
    """The blocks that are come to from the start by blocks beside one another."""
    met = {start}
    while True:
        more = {block for branch in branches_by_words(some) if set(branch) & met for block in branch} - met
        if not more:
            return tuple(sorted(met))
        met |= more


class Walked(unittest.TestCase):
    def test_at_first(self):
        for field, some in block_fields()[::4]:
            tree = some_tree(field)
            for start in field[::5]:
                going = Going(field, tree, start)
                rest = tuple(cell for cell in field if cell != start)
                self.assertEqual(all_told(going), (start, (start,), field, tree, rest, ()))

    def test_some_steps(self):
        going = Going(rectangle(2, 2), (), (1, 1))
        for cell in [(1, 0), (0, 0), (0, 1), (1, 1), (1, 0)]:
            self.assertEqual(going.step(), cell)
            self.assertEqual(going.at(), cell)
        self.assertEqual(going.mown(), rectangle(2, 2))
        self.assertEqual(going.left(), ())

    def test_whole_rounds(self):
        for field, some in block_fields()[::3] + drawn_block_fields()[::3]:
            tree = drawn_tree(some, 5)
            walk = ring(field, tree)
            for spot in (0, len(walk) // 3, len(walk) - 1):
                going = Going(field, tree, walk[spot])
                met = [walk[spot]]
                for step in range(1, len(walk)):
                    self.assertEqual(going.step(), walk[(spot + step) % len(walk)])
                    met.append(going.at())
                    self.assertEqual(going.mown(), tuple(sorted(met)))
                    self.assertEqual(set(going.left()), set(field) - set(met))
                self.assertEqual((going.mown(), going.left(), going.lost()), (field, (), ()))
                self.assertEqual(going.step(), walk[spot])
                self.assertEqual((going.mown(), going.left(), going.lost()), (field, (), ()))

    def test_asking_changes_nothing(self):
        going = Going(ROW, ROW_TREE, (1, 4))
        self.assertEqual(all_told(going), all_told(going))
        self.assertTrue(is_plain(all_told(going)))


class Things(unittest.TestCase):
    def refused(self, going, deed, block, error):
        ahead = all_told(going)
        with self.assertRaises(error) as caught:
            deed(block)
        self.assertIs(type(caught.exception), error)
        self.assertIsInstance(caught.exception, MowError)
        self.assertEqual(all_told(going), ahead)

    def changed(self, going, first, taken, deed, block):
        """Does the deed, a thing that comes or goes, and looks at all that is promised of it."""
        field, tree, at, mown = going.field(), going.tree(), going.at(), going.mown()
        told = deed(block)
        free = [other for other in blocks_of(first) if other not in taken]
        some = come_to(free, block_at(first, at))
        self.assertEqual(going.field(), tuple(sorted(cell for other in some for cell in of_blocks(((0, 0),), *other))))
        kept = {branch for branch in tree if branch[0] in some and branch[1] in some}
        self.assertLessEqual(kept, set(going.tree()))
        self.assertLessEqual(set(going.tree()), set(branches_by_words(some)))
        self.assertEqual(list(going.tree()), sorted(set(going.tree())))
        self.assertEqual(len(going.tree()), len(some) - 1)
        self.assertTrue(hang_together(some, going.tree()))
        self.assertIs(is_tree(going.field(), going.tree()), True)
        self.assertEqual(
            told, tuple(other for other in some if branches_at(tree, other) != branches_at(going.tree(), other)),
        )
        self.assertTrue(is_plain(told) and is_plain(all_told(going)))
        self.assertEqual((going.at(), going.mown()), (at, mown))
        for cell in going.field():
            if block_at(first, cell) not in told:
                self.assertIn(cell, field)
                self.assertEqual(next_round(going.field(), going.tree(), cell), next_round(field, tree, cell))
        for other in set(some) - set(blocks_of(field)):
            self.assertIn(other, told)
        self.all_cells(going, first)
        return told

    def all_cells(self, going, first):
        self.assertEqual(sorted(going.mown() + going.left() + going.lost()), list(first))
        self.assertEqual(set(going.left()), set(going.field()) - set(going.mown()))
        self.assertEqual(set(going.lost()), set(first) - set(going.mown()) - set(going.field()))
        for told in (going.mown(), going.left(), going.lost()):
            self.assertTrue(type(told) is tuple and list(told) == sorted(set(told)))

    def mow_all(self, going, first):
        """By as many steps as there are places, less one, all that can be come to is mown."""
        for _ in range(len(going.field()) - 1):
            self.assertEqual(going.step(), going.at())
        self.assertEqual(going.left(), ())
        self.assertLessEqual(set(going.field()), set(going.mown()))
        self.all_cells(going, first)

    def test_a_thing_that_cuts_off_what_is_behind(self):
        going = Going(ROW, ROW_TREE, (0, 3))
        self.assertEqual(going.thing((0, 6)), ((0, 4),))
        self.assertEqual(going.field(), rectangle(2, 6))
        self.assertEqual(going.tree(), ROW_TREE[:2])
        self.assertEqual(going.lost(), rectangle(2, 4, 0, 6))
        self.assertEqual(len(going.left()), 11)
        self.assertEqual(going.goes((0, 6)), ((0, 4), (0, 6), (0, 8)))
        self.assertEqual((going.field(), going.tree(), going.lost()), (ROW, ROW_TREE, ()))

    def test_things_on_both_sides(self):
        going = Going(ROW, ROW_TREE, (1, 5))
        self.assertEqual(going.thing((0, 2)), ((0, 4),))
        self.assertEqual(going.thing((0, 6)), ((0, 4),))
        self.assertEqual((going.field(), going.tree()), (rectangle(2, 2, 0, 4), ()))
        self.assertEqual([going.step() for _ in range(4)], [(1, 4), (0, 4), (0, 5), (1, 5)])
        self.assertEqual(going.left(), ())
        self.assertEqual(len(going.lost()), 16)
        self.assertEqual(going.goes((0, 6)), ((0, 4), (0, 6), (0, 8)))
        self.assertEqual(len(going.lost()), 8)
        self.assertEqual(len(going.left()), 8)

    def test_mown_cells_of_the_field_no_more(self):
        going = Going(ROW, ROW_TREE, (0, 0))
        for _ in range(4):
            going.step()
        self.assertEqual(going.at(), (0, 4))
        self.assertEqual(going.thing((0, 2)), ((0, 4),))
        self.assertEqual(going.mown(), rectangle(1, 5))
        self.assertEqual(going.lost(), rectangle(1, 4, 1, 0))
        self.assertEqual(going.field(), rectangle(2, 6, 0, 4))
        going.goes((0, 2))
        self.assertEqual(going.lost(), ())
        self.assertEqual(going.mown(), rectangle(1, 5))

    def test_the_field_and_the_tree_as_they_were(self):
        going = Going(rectangle(4, 4), (((0, 0), (0, 2)), ((0, 0), (2, 0)), ((0, 2), (2, 2))), (0, 0))
        self.assertEqual(going.thing((0, 2)), ((0, 0), (2, 0), (2, 2)))
        self.assertEqual(going.tree(), (((0, 0), (2, 0)), ((2, 0), (2, 2))))
        told = going.goes((0, 2))
        self.assertIn(told, [((0, 0), (0, 2)), ((0, 2), (2, 2))])
        self.assertEqual(len(going.tree()), 3)

    def test_a_block_without_branches_elsewhere_changes_its_neighbour_alone(self):
        cross = of_blocks(drawn_text("#.#\n...\n#.#\n"))
        going = Going(cross, some_tree(cross), (2, 2))
        for block in [(0, 2), (2, 0), (2, 4), (4, 2)]:
            self.assertEqual(going.thing(block), ((2, 2),))
        self.assertEqual(going.field(), rectangle(2, 2, 2, 2))
        for block in [(4, 2), (0, 2), (2, 4), (2, 0)]:
            self.assertEqual(going.goes(block), tuple(sorted([(2, 2), block])))
        self.assertEqual((going.field(), going.tree()), (cross, some_tree(cross)))

    def test_things_that_go_where_none_comes_to(self):
        going = Going(ROW, ROW_TREE, (0, 0))
        self.assertEqual(going.thing((0, 6)), ((0, 4),))
        self.assertEqual(going.thing((0, 2)), ((0, 0),))
        self.assertEqual(going.goes((0, 6)), ())
        self.assertEqual((going.field(), going.tree()), (rectangle(2, 2), ()))
        self.assertEqual(going.goes((0, 2)), ((0, 0), (0, 2), (0, 4), (0, 6), (0, 8)))
        self.assertEqual((going.field(), going.tree()), (ROW, ROW_TREE))

    def test_refused(self):
        going = Going(ROW, ROW_TREE, (1, 4))
        for cell in ROW:
            if cell[0] != 0 or cell[1] % 2 != 0:
                self.refused(going, going.thing, cell, NoBlock)
            self.refused(going, going.goes, cell, NoBlock)
        for cell in [(0, 10), (0, -2), (2, 0), (-2, 0), (30, 30), (31, 0), (0, 12)]:
            self.refused(going, going.thing, cell, NoBlock)
            self.refused(going, going.goes, cell, NoBlock)
        self.refused(going, going.thing, (0, 4), Here)

    def test_refused_of_what_is_taken_up_or_cut_off(self):
        going = Going(ROW, ROW_TREE, (1, 1))
        going.thing((0, 4))
        for block in [(0, 4), (0, 6), (0, 8)]:
            self.refused(going, going.thing, block, NoBlock)
        for block in [(0, 0), (0, 2), (0, 6), (0, 8), (1, 4), (0, 5), (1, 5)]:
            self.refused(going, going.goes, block, NoBlock)
        self.refused(going, going.thing, (0, 0), Here)
        going.goes((0, 4))
        self.refused(going, going.goes, (0, 4), NoBlock)
        going.thing((0, 4))
        self.refused(going, going.thing, (0, 4), NoBlock)

    def test_here_follows_the_mower(self):
        going = Going(ROW, ROW_TREE, (0, 0))
        walk = ring(ROW, ROW_TREE)
        for cell in walk[1:] + walk[:1]:
            self.assertEqual(going.step(), cell)
            block = (0, cell[1] // 2 * 2)
            self.refused(going, going.thing, block, Here)
            self.refused(going, going.goes, block, NoBlock)

    def test_things_of_any_kind(self):
        going = Going(ROW, ROW_TREE, (0, 3))
        going.thing((0, 6))
        for thing in junk() + [[0, 0], (0, 0.0), (False, 0), (0, False), ((0, 0),), (0, 0, 0), "0:0", (0, 6.0), [0, 6]]:
            if not same(thing, (0, 0)):
                self.refused(going, going.thing, thing, NoBlock)
            self.refused(going, going.goes, thing, NoBlock)
            for pair in [(thing, 0), (0, thing), (thing, 6), [thing, 0]]:
                if not (same(pair, (0, 0)) or same(pair, (0, 6))):
                    self.refused(going, going.thing, pair, NoBlock)
                    self.refused(going, going.goes, pair, NoBlock)
        self.refused(going, going.thing, Thorny(), NoBlock)
        odd = rectangle(2, 4, 1, 1)
        going = Going(odd, some_tree(odd), (1, 3))
        for block in [(True, 1), (1, True), (1.0, 1), [1, 1]]:
            self.refused(going, going.thing, block, NoBlock)
        self.assertEqual(going.thing((1, 1)), ((1, 3),))

    def test_the_tree_handed_in_is_kept(self):
        for seed, (field, some) in enumerate(drawn_block_fields()):
            tree = drawn_tree(some, seed)
            going = Going(field, tree, field[0])
            self.assertEqual(going.tree(), tree)
            for block in some[1:]:
                self.changed(going, field, [block], going.thing, block)
                self.changed(going, field, [], going.goes, block)

    def test_deeds_drawn(self):
        for seed, (field, some) in enumerate(block_fields()[::5] + drawn_block_fields()):
            source = random.Random(seed)
            going = Going(field, drawn_tree(some, seed), source.choice(field))
            taken = []
            for _ in range(40):
                deed = source.randrange(4)
                if deed == 0 and taken:
                    block = taken.pop(source.randrange(len(taken)))
                    self.changed(going, field, taken, going.goes, block)
                elif deed == 1:
                    block = source.choice(some)
                    if block in blocks_of(going.field()) and block != block_at(field, going.at()):
                        taken.append(block)
                        self.changed(going, field, taken, going.thing, block)
                    elif block in blocks_of(going.field()):
                        self.refused(going, going.thing, block, Here)
                    else:
                        self.refused(going, going.thing, block, NoBlock)
                    if block not in taken:
                        self.refused(going, going.goes, block, NoBlock)
                else:
                    for _ in range(source.randrange(9)):
                        wanted = next_round(going.field(), going.tree(), going.at())
                        self.assertEqual(going.step(), wanted)
                    self.all_cells(going, field)
            self.mow_all(going, field)
            for block in sorted(taken):
                taken.remove(block)
                self.changed(going, field, taken, going.goes, block)
            self.assertEqual(going.field(), field)
            self.mow_all(going, field)
            self.assertEqual((going.mown(), going.left(), going.lost()), (field, (), ()))

    def test_a_round_cut_open(self):
        field = of_blocks(RING, 1, 1)
        some = blocks_of(field)
        going = Going(field, some_tree(field), (1, 1))
        self.changed(going, field, [(3, 1)], going.thing, (3, 1))
        self.assertEqual(len(going.tree()), len(some) - 2)
        self.changed(going, field, [(3, 1), (3, 5)], going.thing, (3, 5))
        self.assertEqual(len(going.field()), 12)
        self.changed(going, field, [(3, 5)], going.goes, (3, 1))
        self.assertEqual(len(going.field()), 28)


class ByTurns(unittest.TestCase):
    def test_two_know_nothing_of_one_another(self):
        field = rectangle(6, 6)
        tree = some_tree(field)
        alone = Going(field, tree, (0, 0))
        one = Going(field, tree, (0, 0))
        other = Going(field, tree, (5, 5))
        for deed, arguments in [
            ("step", []), ("thing", [(2, 2)]), ("step", []), ("thing", [(4, 2)]), ("goes", [(2, 2)]), ("step", []),
        ]:
            self.assertEqual(getattr(one, deed)(*arguments), getattr(alone, deed)(*arguments))
            other.step()
            if arguments == [(4, 2)]:
                other.thing((0, 4))
            self.assertEqual(all_told(one), all_told(alone))
        self.assertIn((4, 2), other.field())
        self.assertNotIn((0, 4), other.field())
        self.assertIn((0, 4), one.field())
        self.assertEqual(len(other.mown()), 7)

    def test_the_same_deeds_tell_the_same(self):
        told = []
        for _ in range(2):
            going = Going(rectangle(6, 6), some_tree(rectangle(6, 6)), (3, 3))
            told.append([going.thing((0, 0)), going.step(), going.thing((4, 4)), going.goes((0, 0)), all_told(going)])
        self.assertEqual(told[0], told[1])
