"""The promise over the whole, sentence by sentence."""

import itertools
import unittest

from mowfloor.along import all_lanes
from mowfloor.barlooks import shows_barred
from mowfloor.bars import barred
from mowfloor.errors import TooMany
from mowfloor.fewest import fewest_runs
from mowfloor.rings import next_round, ring, ring_turns
from mowfloor.runlooks import shows_fewest
from mowfloor.trees import is_tree, some_tree
from mowfloor.walks import turns
from tests.samples import (
    all_fields, apart, block_fields, drawn_block_fields, drawn_fields, drawn_floors, drawn_tree, fields_of, pairs_of_cells,
    small_fields,
)


def fewest_turns(field):
    """Of all walks over all cells, by a look at all states: where one is, which way one came, what is gone over."""
    layer = {(cell, None, frozenset([cell])) for cell in field}
    met = set(layer)
    many = 0
    while layer:
        same, more = layer, set()
        while same:
            if any(len(over) == len(field) for cell, way, over in same):
                return many
            onward = set()
            for cell, way, over in same:
                for beside in field:
                    if apart(cell, beside) == 1:
                        gone = (beside[0] - cell[0], beside[1] - cell[1])
                        state = (beside, gone, over | {beside})
                        if state not in met:
                            if way is None or way == gone:
                                onward.add(state)
                            else:
                                more.add(state)
            met |= onward
            same = onward
        layer = more - met
        met |= layer
        many += 1
    raise AssertionError("no walk goes over all cells")


class Runs(unittest.TestCase):
    def test_no_fewer_runs_hold_all_cells(self):
        for floor in drawn_floors() + drawn_fields():
            some, cells = fewest_runs(floor)
            self.assertIs(shows_fewest(floor, some, cells), True)

    def test_no_walk_over_all_cells_has_fewer_turns(self):
        reached = 0
        for field in all_fields(2, 3) + all_fields(3, 3)[::2] + all_fields(2, 4)[::2] + small_fields()[:9]:
            if len(field) <= 9:
                bound = len(fewest_runs(field)[0]) - 1
                self.assertGreaterEqual(fewest_turns(field), bound)
                reached += fewest_turns(field) == bound
        self.assertGreater(reached, 20)

    def test_nor_does_a_told_walk(self):
        for field in small_fields() + drawn_fields()[::4]:
            for a, b in pairs_of_cells(field, 4):
                try:
                    walk = all_lanes(field, a, b)
                except TooMany:
                    continue
                self.assertGreaterEqual(turns(walk), len(fewest_runs(field)[0]) - 1)
        for field, some in block_fields() + drawn_block_fields():
            walk = ring(field, some_tree(field))
            self.assertGreaterEqual(turns(walk), len(fewest_runs(field)[0]) - 1)


class Bars(unittest.TestCase):
    def test_no_fewer_things_bar_a_way(self):
        for field in drawn_fields():
            for a, b in pairs_of_cells(field, 6):
                if apart(a, b) > 1:
                    cells, ways = barred(field, a, b)
                    self.assertIs(shows_barred(field, a, b, cells, ways), True)
                    self.assertFalse(any(a in part and b in part for part in fields_of(set(field) - set(cells))))
                    if len(field) < 60:
                        for some in itertools.combinations(cells, len(cells) - 1):
                            left = fields_of(set(field) - set(some))
                            self.assertTrue(any(a in part and b in part for part in left))


class Rings(unittest.TestCase):
    def test_a_ring_comes_to_each_place_just_once_and_home(self):
        for field, some in block_fields() + drawn_block_fields():
            for tree in [some_tree(field), drawn_tree(some, 3)]:
                self.assertIs(is_tree(field, tree), True)
                walk = ring(field, tree)
                self.assertEqual(sorted(walk), list(field))
                self.assertTrue(all(apart(*step) == 1 for step in zip(walk, walk[1:] + walk[:1])))
                self.assertEqual(next_round(field, tree, walk[-1]), walk[0])
                self.assertEqual(ring_turns(field, tree), turns(walk + walk[:2]))
