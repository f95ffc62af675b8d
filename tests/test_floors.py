import copy
import unittest

from mowfloor.floors import is_field, is_floor, neighbours, parts
from tests.samples import (
    Point, all_floors, apart, drawn_floors, drawn_text, is_plain, junk, nested, rectangle,
)


def joined(floor):
    """Whether all cells are come to from the first, by growing until nothing grows."""
    found = set(floor[:1])
    while True:
        more = {cell for cell in floor if any(apart(cell, other) == 1 for other in found)} - found
        if not more:
            return len(found) == len(floor)
        found |= more


class IsFloor(unittest.TestCase):
    def holds(self, thing, truth):
        self.assertIs(is_floor(thing), truth, repr(thing)[:200])

    def test_floors(self):
        for floor in [(), ((0, 0),), ((30, 30),), ((0, 30), (30, 0)), ((0, 0), (0, 1), (1, 0)), ((3, 9), (4, 2))]:
            self.holds(floor, True)
        self.holds(rectangle(31, 31), True)
        for floor in drawn_floors():
            self.holds(floor, True)

    def test_bounds(self):
        for number in (0, 1, 29, 30):
            self.holds(((number, 5),), True)
            self.holds(((5, number),), True)
        for number in (-100, -1, 31, 32, 10 ** 30):
            self.holds(((number, 5),), False)
            self.holds(((5, number),), False)
        self.holds(((0, 0), (0, 31)), False)
        self.holds(((-1, 0), (0, 0)), False)

    def test_lists_are_no_tuples(self):
        for thing in [[], [(0, 0)], ([0, 0],), ((0, 0), [0, 1]), [[0, 0]]]:
            self.holds(thing, False)

    def test_truths_are_no_numbers(self):
        for thing in [((True, 0),), ((0, True),), ((False, 5),), ((5, False),), ((False, False),), ((0, 0), (1, True))]:
            self.holds(thing, False)

    def test_pairs_too_short_or_too_long(self):
        for thing in [((),), ((0,),), ((0, 0, 0),), ((0, 0), (1,)), ((0, 0), (0, 1, 0)), (0, 0)]:
            self.holds(thing, False)

    def test_twice_or_not_rising(self):
        for thing in [
            ((0, 0), (0, 0)), ((0, 1), (0, 0)), ((1, 0), (0, 5)),
            ((0, 0), (0, 2), (0, 1)), ((0, 0), (0, 1), (0, 1)), ((0, 1), (0, 2), (0, 0)),
        ]:
            self.holds(thing, False)

    def test_anything(self):
        for thing in junk():
            self.assertIs(is_floor(thing), False)

    def test_depths(self):
        for depth in range(1, 61):
            for wrap in (lambda thing: (thing,), lambda thing: [thing], lambda thing: {"a": thing}):
                self.holds(nested(depth, wrap), False)
            self.holds(((nested(depth, lambda thing: (thing,)), 0), (0, 0)), False)

    def test_a_tuple_with_names_is_a_tuple(self):
        self.holds((Point(0, 0), (0, 1)), True)


class IsField(unittest.TestCase):
    def holds(self, thing, truth):
        self.assertIs(is_field(thing), truth, repr(thing)[:200])

    def test_fields(self):
        self.holds(((0, 0),), True)
        self.holds(((30, 30),), True)
        self.holds(rectangle(31, 31), True)
        self.holds(rectangle(2, 3, 9, 9), True)
        self.holds(drawn_text("... #.# ..."), True)
        self.holds(drawn_text("...\n.#.\n.##\n..."), True)

    def test_no_cells(self):
        self.holds((), False)

    def test_touching_at_a_corner_only(self):
        self.holds(((0, 0), (1, 1)), False)
        self.holds(((0, 1), (1, 0)), False)
        self.holds(drawn_text("..## ..## ##.. ##.."), False)

    def test_two_parts(self):
        self.holds(((0, 0), (0, 2)), False)
        self.holds(drawn_text("..#.. ..#.."), False)

    def test_a_row_end_is_no_neighbour_of_the_next_rows_begin(self):
        self.holds(((0, 30), (1, 0)), False)
        self.holds(((0, 2), (1, 0)), False)

    def test_what_is_no_floor(self):
        for thing in [
            ((0, 31),), ((-1, 0), (0, 0)), ((0, 0), (0, 0)), ((0, 1), (0, 0)), [(0, 0)], ([0, 0],),
            ((0, False),), ((0, 0), (0, True)), ((0, 30), (0, 31)),
        ]:
            self.holds(thing, False)

    def test_anything(self):
        for thing in junk():
            self.assertIs(is_field(thing), False)
        for depth in range(1, 61):
            self.holds(nested(depth, lambda thing: (thing,)), False)

    def test_all_small_floors(self):
        for floor in all_floors(3, 3):
            self.holds(floor, len(floor) > 0 and joined(floor))

    def test_drawn_floors(self):
        for floor in drawn_floors():
            self.holds(floor, len(floor) > 0 and joined(floor))


class Neighbours(unittest.TestCase):
    def test_in_the_middle(self):
        self.assertEqual(neighbours(rectangle(3, 3), (1, 1)), ((0, 1), (1, 0), (1, 2), (2, 1)))

    def test_at_the_edges(self):
        whole = rectangle(31, 31)
        self.assertEqual(neighbours(whole, (0, 0)), ((0, 1), (1, 0)))
        self.assertEqual(neighbours(whole, (0, 30)), ((0, 29), (1, 30)))
        self.assertEqual(neighbours(whole, (30, 0)), ((29, 0), (30, 1)))
        self.assertEqual(neighbours(whole, (30, 30)), ((29, 30), (30, 29)))
        self.assertEqual(neighbours(whole, (0, 7)), ((0, 6), (0, 8), (1, 7)))

    def test_off_the_floor(self):
        ring = drawn_text("... .#. ...")
        self.assertEqual(neighbours(ring, (1, 1)), ((0, 1), (1, 0), (1, 2), (2, 1)))
        self.assertEqual(neighbours(ring, (3, 1)), ((2, 1),))
        self.assertEqual(neighbours(ring, (3, 3)), ())
        self.assertEqual(neighbours(ring, (30, 30)), ())

    def test_alone_and_of_no_cells(self):
        self.assertEqual(neighbours(((4, 4),), (4, 4)), ())
        self.assertEqual(neighbours((), (0, 0)), ())
        self.assertEqual(neighbours(((0, 0), (1, 1), (2, 2)), (1, 1)), ())

    def test_all_small_floors(self):
        for floor in all_floors(3, 3):
            for cell in rectangle(4, 4):
                wanted = tuple(sorted(other for other in floor if apart(cell, other) == 1))
                self.assertEqual(neighbours(floor, cell), wanted)


class Parts(unittest.TestCase):
    def test_told(self):
        self.assertEqual(parts(()), ())
        self.assertEqual(parts(((30, 30),)), (((30, 30),),))
        self.assertEqual(parts(rectangle(4, 5)), (rectangle(4, 5),))
        self.assertEqual(parts(rectangle(31, 31)), (rectangle(31, 31),))
        self.assertEqual(parts(((0, 0), (1, 1))), (((0, 0),), ((1, 1),)))

    def test_rising_by_their_least_cells(self):
        floor = drawn_text("#.#. ..#. ##.. #####  .##.")
        wanted = (((0, 1), (1, 0), (1, 1)), ((0, 3), (1, 3), (2, 2), (2, 3)), ((4, 0),), ((4, 3),))
        self.assertEqual(parts(floor), wanted)

    def test_one_part_around_another(self):
        floor = drawn_text("..... .###. .#.#. .###. .....")
        self.assertEqual(parts(floor), (tuple(cell for cell in floor if cell != (2, 2)), ((2, 2),)))

    def test_each_is_as_large_as_can_be(self):
        for floor in drawn_floors() + all_floors(3, 3):
            told = parts(floor)
            self.assertTrue(is_plain(told))
            self.assertEqual(tuple(sorted(told)), told)
            self.assertEqual(sorted(cell for part in told for cell in part), list(floor))
            owner = {cell: part for part in told for cell in part}
            for part in told:
                self.assertEqual(tuple(sorted(part)), part)
                self.assertTrue(joined(part) and len(part) > 0)
            for cell in floor:
                row, column = cell
                for beside in ((row + 1, column), (row, column + 1)):
                    self.assertEqual(owner.get(beside, owner[cell]), owner[cell])


class Unchanged(unittest.TestCase):
    def test_nothing_is_changed_and_the_same_is_told(self):
        for thing in ([(0, 0), [1, {2: []}]], {(0, 0): [1]}, ([0, 0], [0, 1]), [((0, 0),)]):
            ahead = copy.deepcopy(thing)
            self.assertEqual((is_floor(thing), is_field(thing)), (is_floor(thing), is_field(thing)))
            self.assertEqual(thing, ahead)
        for floor in drawn_floors()[:20]:
            self.assertEqual(parts(floor), parts(tuple(list(floor))))
            self.assertEqual(neighbours(floor, (1, 1)), neighbours(tuple(list(floor)), (1, 1)))
