"""The promise over the whole, sentence by sentence."""

import itertools
import random
import unittest

from mowfloor.along import all_lanes, gone
from mowfloor.barlooks import shows_barred
from mowfloor.bars import barred
from mowfloor.blocks import blocks
from mowfloor.desk import Desk
from mowfloor.errors import Here, MowError, TooMany
from mowfloor.fences import fences
from mowfloor.fewest import fewest_runs
from mowfloor.going import Going
from mowfloor.littles import shows_too_little, too_little
from mowfloor.places import mown, never, places, shows_never
from mowfloor.rings import next_round, ring, ring_turns
from mowfloor.runlooks import shows_fewest
from mowfloor.several import several, whose
from mowfloor.strokes import strokes
from mowfloor.texts import read_floor, show_floor
from mowfloor.times import least_time
from mowfloor.trees import is_tree, some_tree
from mowfloor.walklooks import shows_walk
from mowfloor.walks import is_walk, turns
from tests.samples import (
    all_fields, apart, block_fields, drawn_block_fields, drawn_fields, drawn_floors, drawn_tree, fields_of,
    lanes_by_words,
    odd_by_words, pairs_of_cells, small_fields, steps_by_words,
)


def fewest_turns(field):
    """Of all walks over all cells, by a look at all states: where one is, which way one came, what is gone over."""
    layer = {(cell, None, frozenset([cell])) for cell in field}
    met = set(layer)
    many = 0
    while layer:
        same, more = layer, set()
        while same:
            if any(len(over) == len(field) for cell, way, over in same):
                return many
            onward = set()
            for cell, way, over in same:
                for beside in field:
                    if apart(cell, beside) == 1:
                        gone = (beside[0] - cell[0], beside[1] - cell[1])
                        state = (beside, gone, over | {beside})
                        if state not in met:
                            if way is None or way == gone:
                                onward.add(state)
                            else:
                                more.add(state)
            met |= onward
            same = onward
        layer = more - met
        met |= layer
        many += 1
    raise AssertionError("no walk goes over all cells")


def square(place, width):
    return {(place[0] + row, place[1] + column) for row in range(width) for column in range(width)}


def stood_over(floor, width, start):
    """(places, cells): all that a mower comes to and mows, by going there step by step, without the program."""
    met, waiting = {start}, [start]
    while waiting:
        row, column = waiting.pop()
        for place in [(row - 1, column), (row + 1, column), (row, column - 1), (row, column + 1)]:
            if place not in met and square(place, width) <= set(floor):
                met.add(place)
                waiting.append(place)
    return met, set().union(*[square(place, width) for place in met])


class Mowers(unittest.TestCase):
    def test_a_mower_mows_just_the_cells_told_and_a_paper_shows_it(self):
        papers = 0
        for floor in drawn_floors()[::2]:
            for width in (1, 2, 3):
                fitting = [cell for cell in floor if square(cell, width) <= set(floor)]
                for start in fitting[:1] + fitting[-1:]:
                    met, over = stood_over(floor, width, start)
                    field = places(floor, width, start)
                    self.assertEqual(field, tuple(sorted(met)))
                    self.assertEqual(mown(field, width), tuple(sorted(over)))
                    for cell in floor[::5]:
                        paper = never(floor, width, start, cell)
                        self.assertEqual(paper is None, cell in over)
                        if paper is not None:
                            papers += 1
                            self.assertIs(shows_never(floor, width, start, cell, paper), True)
                        self.assertIs(shows_never(floor, width, start, cell, field), paper is not None)
        self.assertGreater(papers, 100)


class Runs(unittest.TestCase):
    def test_no_fewer_runs_hold_all_cells(self):
        for floor in drawn_floors() + drawn_fields():
            some, cells = fewest_runs(floor)
            self.assertIs(shows_fewest(floor, some, cells), True)

    def test_no_walk_over_all_cells_has_fewer_turns(self):
        reached = 0
        for field in all_fields(2, 3) + all_fields(3, 3)[::2] + all_fields(2, 4)[::2] + small_fields()[:9]:
            if len(field) <= 9:
                bound = len(fewest_runs(field)[0]) - 1
                self.assertGreaterEqual(fewest_turns(field), bound)
                reached += fewest_turns(field) == bound
        self.assertGreater(reached, 20)

    def test_nor_does_a_told_walk(self):
        for field in small_fields() + drawn_fields()[::4]:
            for a, b in pairs_of_cells(field, 4):
                try:
                    walk = all_lanes(field, a, b)
                except TooMany:
                    continue
                self.assertGreaterEqual(turns(walk), len(fewest_runs(field)[0]) - 1)
        for field, some in block_fields() + drawn_block_fields():
            walk = ring(field, some_tree(field))
            self.assertGreaterEqual(turns(walk), len(fewest_runs(field)[0]) - 1)


class Lanes(unittest.TestCase):
    def test_no_walk_along_all_lanes_has_fewer_steps(self):
        for field in small_fields() + drawn_fields():
            for a, b in pairs_of_cells(field, 5):
                if len(odd_by_words(field, a, b)) <= 14:
                    walk = all_lanes(field, a, b)
                    self.assertIs(is_walk(field, walk), True)
                    self.assertEqual([lane for lane, often in gone(walk)], list(lanes_by_words(field)))
                    self.assertIs(shows_walk(field, a, b, walk, fences(field, a, b)), True)

    def test_no_fewer_walks_go_along_each_lane_just_once(self):
        for field in small_fields() + drawn_fields():
            some = strokes(field)
            gone_along = [lane for walk in some for lane in steps_by_words(field, walk)]
            self.assertEqual(sorted(gone_along), list(lanes_by_words(field)))
            ends = len(odd_by_words(field, field[0], field[0]))
            self.assertEqual(len(some), max(ends // 2, min(1, len(gone_along))))


class Bars(unittest.TestCase):
    def test_no_fewer_things_bar_a_way(self):
        for field in drawn_fields():
            for a, b in pairs_of_cells(field, 6):
                if apart(a, b) > 1:
                    cells, ways = barred(field, a, b)
                    self.assertIs(shows_barred(field, a, b, cells, ways), True)
                    self.assertFalse(any(a in part and b in part for part in fields_of(set(field) - set(cells))))
                    if len(field) < 60:
                        for some in itertools.combinations(cells, len(cells) - 1):
                            left = fields_of(set(field) - set(some))
                            self.assertTrue(any(a in part and b in part for part in left))


class Rings(unittest.TestCase):
    def test_a_ring_comes_to_each_place_just_once_and_home(self):
        for field, some in block_fields() + drawn_block_fields():
            for tree in [some_tree(field), drawn_tree(some, 3)]:
                self.assertIs(is_tree(field, tree), True)
                walk = ring(field, tree)
                self.assertEqual(sorted(walk), list(field))
                self.assertTrue(all(apart(*step) == 1 for step in zip(walk, walk[1:] + walk[:1])))
                self.assertEqual(next_round(field, tree, walk[-1]), walk[0])
                self.assertEqual(ring_turns(field, tree), turns(walk + walk[:2]))


class SeveralOnARing(unittest.TestCase):
    def test_each_in_a_stretch_of_its_own_and_none_does_it_in_less_time(self):
        for seed, (field, some) in enumerate(block_fields()[::4] + drawn_block_fields()):
            tree = drawn_tree(some, seed)
            walk = ring(field, tree)
            source = random.Random(seed)
            starts = tuple(sorted(source.sample(field, min(len(field), 1 + seed % 8))))
            spots = tuple(sorted(walk.index(start) for start in starts))
            least = least_time(len(walk), spots)
            mowers = several(field, tree, starts)
            self.assertEqual(sorted(cell for mower in mowers for cell in set(mower)), list(field))
            self.assertEqual(max(len(mower) for mower in mowers) - 1, least)
            for time in range(least + 1):
                now = [mower[min(time, len(mower) - 1)] for mower in mowers]
                self.assertEqual(len(set(now)), len(now))
            self.assertEqual({start for cell, start in whose(field, tree, starts)}, set(starts))
            for time in range(least):
                paper = too_little(len(walk), spots, time)
                self.assertIs(shows_too_little(len(walk), spots, time, paper), True)
            self.assertIsNone(too_little(len(walk), spots, least))


class ComingAndGoing(unittest.TestCase):
    def test_the_ring_changes_in_the_blocks_told_alone_and_all_is_mown(self):
        for seed, (field, some) in enumerate(drawn_block_fields()):
            source = random.Random(seed)
            going = Going(field, some_tree(field), source.choice(field))
            taken = []
            for _ in range(12):
                for _ in range(source.randrange(6)):
                    going.step()
                ahead = (going.field(), going.tree())
                free = [block for block in blocks(going.field())]
                try:
                    if taken and source.randrange(2):
                        told = going.goes(taken.pop())
                    else:
                        block = source.choice(free)
                        told = going.thing(block)
                        taken.append(block)
                except Here:
                    continue
                self.assertIs(is_tree(going.field(), going.tree()), True)
                self.assertLessEqual(set(told), set(blocks(going.field())))
                for row, column in blocks(going.field()):
                    for cell in [(row, column), (row, column + 1), (row + 1, column), (row + 1, column + 1)]:
                        if (row, column) not in told:
                            self.assertEqual(next_round(going.field(), going.tree(), cell), next_round(*ahead, cell))
                self.assertEqual(sorted(going.mown() + going.left() + going.lost()), list(field))
            for _ in range(len(going.field()) - 1):
                going.step()
            self.assertEqual(going.left(), ())
            self.assertEqual(sorted(going.mown() + going.lost()), list(field))


class TextsAndTheDesk(unittest.TestCase):
    def test_what_is_written_is_read_as_it_was(self):
        for floor in drawn_floors() + drawn_fields() + [field for field, some in block_fields()] + [()]:
            self.assertEqual(read_floor(show_floor(floor)), floor)

    def test_the_desk_answers_as_all_these_do(self):
        for seed, (field, some) in enumerate(drawn_block_fields()):
            desk = Desk()
            source = random.Random(seed)
            start, a, b = source.choice(field), source.choice(field), source.choice(field)
            going = Going(field, some_tree(field), start)
            desk.say("floor " + show_floor(field).replace("\n", "/"))
            desk.say(f"mower 1 {a[0]}:{a[1]}")
            desk.say(f"round {start[0]}:{start[1]}")
            told = [desk.say(row) for row in ("cells", "runs", "places", "mown", "strokes", "turns")]
            wanted = [
                len(field), len(fewest_runs(field)[0]), len(field), len(field), len(strokes(field)),
                ring_turns(field, some_tree(field)),
            ]
            self.assertEqual(told, [str(many) for many in wanted])
            for _ in range(9):
                cell = going.step()
                self.assertEqual(desk.say("step"), f"{cell[0]}:{cell[1]}")
            for block in some[::3]:
                row = f"thing {block[0]}:{block[1]}"
                try:
                    blocks_told = going.thing(block)
                except MowError as error:
                    with self.assertRaises(type(error)):
                        desk.say(row)
                else:
                    self.assertEqual(desk.say(row), " ".join(f"{one}:{other}" for one, other in blocks_told) or "-")
                self.assertEqual(desk.say("lost"), str(len(going.lost())))
            try:
                wanted = str(len(all_lanes(field, a, b)) - 1)
            except TooMany:
                continue
            self.assertEqual(desk.say(f"walk {a[0]}:{a[1]} {b[0]}:{b[1]}"), wanted)
