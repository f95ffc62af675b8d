import itertools
import unittest

from mowfloor.fewest import fewest_runs
from mowfloor.floors import is_field
from mowfloor.runlooks import shows_fewest
from tests.samples import all_floors, all_runs, apart, drawn, drawn_floors, drawn_text, held, is_plain, rectangle


def fewest_by_all_sets(floor):
    every = [set(held(run)) for run in all_runs(floor)]
    for many in range(len(floor) + 1):
        for some in itertools.combinations(every, many):
            if set().union(*some) == set(floor):
                return many


def fewest_turns(field):
    """Of all walks over all cells, by going on from all that have as many turns, then one more."""
    whole = frozenset(field)
    layer = {(cell, None, frozenset([cell])) for cell in field}
    seen = set(layer)
    many = 0
    while True:
        waiting = list(layer)
        layer = set()
        while waiting:
            cell, way, mown = waiting.pop()
            if mown == whole:
                return many
            for other in field:
                if apart(cell, other) == 1:
                    new = (other, (other[0] - cell[0], other[1] - cell[1]), mown | {other})
                    if way in (None, new[1]) and new not in seen:
                        seen.add(new)
                        waiting.append(new)
                    elif way not in (None, new[1]):
                        layer.add(new)
        layer -= seen
        seen |= layer
        many += 1


class FewestRuns(unittest.TestCase):
    def right(self, floor):
        told = fewest_runs(floor)
        self.assertTrue(is_plain(told))
        some, cells = told
        every = all_runs(floor)
        self.assertEqual(tuple(sorted(set(some))), some)
        self.assertEqual(tuple(sorted(set(cells))), cells)
        self.assertEqual([run for run in some if run not in every], [])
        self.assertEqual({cell for run in some for cell in held(run)}, set(floor))
        self.assertEqual(len(some), len(cells))
        self.assertLessEqual(set(cells), set(floor))
        for run in every:
            self.assertLessEqual(len(set(held(run)) & set(cells)), 1)
        self.assertIs(shows_fewest(floor, some, cells), True)
        return len(some)

    def test_no_cells(self):
        self.assertEqual(fewest_runs(()), ((), ()))

    def test_one_cell(self):
        some, cells = fewest_runs(((30, 30),))
        self.assertIn(some, ((("down", (30, 30), 1),), (("right", (30, 30), 1),)))
        self.assertEqual(cells, ((30, 30),))

    def test_whole_rectangles(self):
        for rows in range(1, 9):
            for columns in range(1, 9):
                self.assertEqual(self.right(rectangle(rows, columns, 3, 2)), min(rows, columns))
        self.assertEqual(self.right(rectangle(1, 31)), 1)
        self.assertEqual(self.right(rectangle(31, 1)), 1)
        self.assertEqual(self.right(rectangle(6, 31)), 6)

    def test_told(self):
        self.assertEqual(self.right(drawn_text("... .#. ...")), 4)
        self.assertEqual(self.right(drawn_text("#.# ... #.#")), 2)
        self.assertEqual(self.right(drawn_text(".#.# #.#. .#.#")), 6)
        self.assertEqual(self.right(drawn_text("..### #..## ##..# ###..")), 4)
        self.assertEqual(self.right(drawn_text("..... .#.#. .....")), 5)

    def test_drawn_floors(self):
        for floor in drawn_floors():
            self.right(floor)
        for seed in range(30):
            self.right(drawn(seed, 12, 12, 40 + 2 * seed))

    def test_no_fewer_do_it_on_all_floors_of_three_by_three(self):
        for floor in all_floors(3, 3):
            self.assertEqual(self.right(floor), fewest_by_all_sets(floor))

    def test_no_fewer_do_it_on_drawn_small_floors(self):
        for seed in range(40):
            floor = drawn(seed, 4, 5, 50 + seed)
            self.assertEqual(self.right(floor), fewest_by_all_sets(floor))

    def test_the_largest_and_the_one_of_most_runs(self):
        for floor in (rectangle(31, 31), tuple(cell for cell in rectangle(31, 31) if sum(cell) % 2 == 0)):
            some, cells = fewest_runs(floor)
            self.assertEqual(len(some), 31 if len(floor) == 961 else 481)
            self.assertIs(shows_fewest(floor, some, cells), True)

    def test_a_long_stair_is_gone_along_to_its_end(self):
        stair = tuple(sorted([(step, step) for step in range(31)] + [(step, step + 1) for step in range(30)]))
        self.assertEqual(self.right(stair), 31)

    def test_no_walk_over_all_cells_has_fewer_turns_than_runs_less_one(self):
        for field in all_floors(3, 3) + [drawn_text(".... .##. ...."), drawn_text(".#.# .... .#.#")]:
            if is_field(field):
                self.assertGreaterEqual(fewest_turns(field), len(fewest_runs(field)[0]) - 1)

    def test_asked_again_the_same_is_told(self):
        for floor in drawn_floors()[:30]:
            self.assertEqual(fewest_runs(floor), fewest_runs(tuple(list(floor))))
