import itertools
import unittest

from mowfloor.rings import ring
from mowfloor.several import several, whose
from mowfloor.times import least_time, shares
from mowfloor.trees import some_tree
from tests.samples import (
    apart, block_fields, drawn_block_fields, drawn_tree, is_plain, rectangle, steps_of_share,
)


def some_starts(field, many, seed):
    """So many cells of the field, or all where there are fewer."""
    step = 1 + seed % 7
    return tuple(sorted(dict.fromkeys(field[(seed + step * place) % len(field)] for place in range(many))))


def cases():
    """(field, tree, starts): one start to eight, beside one another and far off."""
    found = []
    for seed, (field, some) in enumerate(block_fields()[::3] + drawn_block_fields()):
        for tree in [some_tree(field), drawn_tree(some, seed)]:
            for many in (1, 2, 3, 5, 8):
                found.append((field, tree, some_starts(field, many, seed)))
            found.append((field, tree, field[-8:]))
    return found


def spots_by_words(walk, starts):
    return [place for place, cell in enumerate(walk) if cell in starts]


class Several(unittest.TestCase):
    def share(self, walk, start, mower):
        """(left, right) of a mower's walk; fails where it doesn't go out to one side, back, and to the other one."""
        many = len(walk)
        spot = walk.index(start)
        aside = 0
        offs = [0]
        for one, other in zip(mower, mower[1:]):
            step = (walk.index(other) - walk.index(one)) % many
            self.assertIn(step, (1, many - 1))
            aside += 1 if step == 1 else -1
            offs.append(aside)
        self.assertEqual(mower[0], start)
        self.assertEqual([walk[(spot + off) % many] for off in offs], list(mower))
        left, right = -min(offs), max(offs)
        out = list(range(0, -left - 1, -1)), list(range(0, right + 1))
        first, then = out if left <= right else reversed(out)
        self.assertEqual(offs, list(first) + list(first)[-2::-1] + list(then)[1:])
        return left, right

    def test_one_start_in_one_block(self):
        walks = several(rectangle(2, 2), (), ((1, 0),))
        self.assertEqual(len(walks), 1)
        self.assertIn(walks[0], [((1, 0), (0, 0), (0, 1), (1, 1)), ((1, 0), (1, 1), (0, 1), (0, 0))])

    def test_all_cells_are_starts(self):
        field = rectangle(2, 4)
        self.assertEqual(several(field, some_tree(field), field), tuple((cell,) for cell in field))
        self.assertEqual(whose(field, some_tree(field), field), tuple((cell, cell) for cell in field))

    def test_in_the_order_of_the_starts_not_of_the_ring(self):
        field = rectangle(2, 4)
        starts = ((0, 3), (1, 0), (1, 1))
        self.assertEqual(ring(field, some_tree(field)).index((1, 0)), 7)
        walks = several(field, some_tree(field), starts)
        self.assertEqual(tuple(walk[0] for walk in walks), starts)

    def test_of_as_many_the_left_one_is_first(self):
        field = rectangle(2, 2)
        for starts in [((0, 0), (0, 1)), ((0, 0), (1, 1)), ((1, 0), (1, 1))]:
            for walk, start in zip(several(field, (), starts), starts):
                self.share(ring(field, ()), start, walk)
        met = []
        for field, tree, starts in cases():
            walk = ring(field, tree)
            for start, mower in zip(starts, several(field, tree, starts)):
                left, right = self.share(walk, start, mower)
                if left == right > 0:
                    self.assertEqual(mower[1], walk[walk.index(start) - 1])
                    met.append(start)
        self.assertTrue(met)

    def test_each_cell_is_in_one_walk_alone(self):
        for field, tree, starts in cases():
            walks = several(field, tree, starts)
            self.assertTrue(type(walks) is tuple and is_plain(walks))
            self.assertEqual(len(walks), len(starts))
            self.assertEqual(sorted(cell for walk in walks for cell in set(walk)), list(field))

    def test_out_to_the_side_with_fewer_back_and_to_the_other(self):
        for field, tree, starts in cases():
            walk = ring(field, tree)
            shared = 0
            for start, mower in zip(starts, several(field, tree, starts)):
                left, right = self.share(walk, start, mower)
                shared += 1 + left + right
                self.assertEqual(len(mower) - 1, steps_of_share(left, right))
            self.assertEqual(shared, len(field))

    def test_by_the_shares_of_the_starts_places(self):
        for field, tree, starts in cases():
            walk = ring(field, tree)
            spots = spots_by_words(walk, starts)
            told = shares(len(walk), tuple(spots))
            for start, mower in zip(starts, several(field, tree, starts)):
                self.assertEqual(self.share(walk, start, mower), told[spots.index(walk.index(start))])

    def test_in_the_least_time(self):
        for field, tree, starts in cases():
            least = least_time(len(field), tuple(spots_by_words(ring(field, tree), starts)))
            walks = several(field, tree, starts)
            self.assertEqual(max(len(walk) - 1 for walk in walks), least)

    def test_never_on_one_cell_and_never_changing_places(self):
        for field, tree, starts in cases():
            walks = several(field, tree, starts)
            many = max(len(walk) for walk in walks)
            ahead = None
            for time in range(many):
                now = [walk[min(time, len(walk) - 1)] for walk in walks]
                self.assertEqual(len(set(now)), len(now))
                if ahead is not None:
                    for one, other in itertools.combinations(range(len(now)), 2):
                        self.assertFalse(now[one] == ahead[other] and now[other] == ahead[one])
                    self.assertTrue(all(apart(*step) <= 1 for step in zip(ahead, now)))
                ahead = now

    def test_the_same_is_told_again(self):
        for field, tree, starts in cases()[::5]:
            self.assertEqual(several(field, tree, starts), several(field, tree, tuple(list(starts))))

    def test_all_of_900_cells(self):
        field = rectangle(30, 30)
        walks = several(field, some_tree(field), ((0, 0), (9, 9), (29, 29)))
        self.assertEqual(sorted(cell for walk in walks for cell in set(walk)), list(field))


class Whose(unittest.TestCase):
    def test_by_the_walks(self):
        for field, tree, starts in cases():
            told = whose(field, tree, starts)
            self.assertTrue(type(told) is tuple and is_plain(told))
            walks = several(field, tree, starts)
            self.assertEqual([cell for cell, start in told], list(field))
            self.assertEqual(list(told), sorted(set(told)))
            for cell, start in told:
                self.assertIn(cell, walks[starts.index(start)])
            self.assertEqual(whose(field, tree, starts), told)

    def test_one_start(self):
        field = rectangle(4, 4, 1, 1)
        self.assertEqual(whose(field, some_tree(field), ((2, 2),)), tuple((cell, (2, 2)) for cell in field))

    def test_each_start_is_its_own(self):
        for field, tree, starts in cases():
            self.assertLessEqual({(start, start) for start in starts}, set(whose(field, tree, starts)))
