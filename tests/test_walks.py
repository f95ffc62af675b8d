import copy
import unittest

from mowfloor.walks import is_walk, turns
from tests.samples import all_floors, apart, drawn_text, junk, nested, rectangle, same

RING = drawn_text("... .#. ...")
SQUARE = rectangle(2, 2)


class IsWalk(unittest.TestCase):
    def holds(self, thing, truth, field=RING):
        self.assertIs(is_walk(field, thing), truth)

    def test_walks(self):
        for cell in RING:
            self.holds((cell,), True)
        self.holds(((0, 0), (0, 1)), True)
        self.holds(((0, 0), (0, 1), (0, 2), (1, 2), (2, 2), (2, 1), (2, 0), (1, 0), (0, 0), (0, 1)), True)
        self.holds(((30, 30),), True, ((30, 30),))
        self.holds(rectangle(1, 31), True, rectangle(1, 31))

    def test_there_and_back(self):
        self.holds(((0, 0), (0, 1), (0, 0)), True)
        self.holds(((0, 0), (0, 1)) * 40, True)
        self.holds(((1, 0), (0, 0), (1, 0), (2, 0), (1, 0)), True)

    def test_no_cells(self):
        self.holds((), False)

    def test_a_cell_that_is_not_of_the_field(self):
        self.holds(((1, 1),), False)
        self.holds(((0, 1), (1, 1), (2, 1)), False)
        self.holds(((0, 0), (0, 1), (1, 1)), False)
        self.holds(((1, 1), (0, 1)), False)
        self.holds(((3, 0),), False)
        self.holds(((-1, 0), (0, 0)), False)
        self.holds(((0, 0), (-1, 0)), False)
        self.holds(((0, 31),), False)

    def test_twice_in_a_row(self):
        self.holds(((0, 0), (0, 0)), False)
        self.holds(((0, 0), (0, 1), (0, 1), (0, 2)), False)

    def test_aslant(self):
        self.holds(((0, 0), (1, 1)), False, SQUARE)
        self.holds(((0, 1), (1, 0)), False, SQUARE)
        self.holds(((0, 1), (1, 2)), False)
        self.holds(((0, 0), (0, 1), (1, 0)), False)

    def test_over_a_gap(self):
        self.holds(((0, 0), (0, 2)), False)
        self.holds(((1, 0), (1, 2)), False)
        self.holds(((0, 0), (0, 1), (2, 1)), False)
        self.holds(((0, 2), (1, 0)), False)

    def test_lists_and_truths(self):
        for thing in [
            [(0, 0)], [(0, 0), (0, 1)], ([0, 0],), ((0, 0), [0, 1]), ([0, 0], [0, 1]), {(0, 0): 1}, {(0, 0)},
            ((False, 0),), ((0, False),), ((0, 0), (0, True)), ((0, 0), (True, 0)), ((0.0, 0),), ((0, 0), (0, 1.0)),
        ]:
            self.holds(thing, False)

    def test_anything(self):
        for thing in junk():
            self.holds(thing, same(thing, ((0, 1), (0, 0))) or same(thing, ((1, 0), (0, 0))))
            self.holds(((0, 0), thing), same(thing, (0, 1)))
            self.holds((thing, (0, 0)), same(thing, (0, 1)))
            self.holds(((0, 0), (0, 1), (0, 2), thing), same(thing, (0, 1)))
        for depth in range(1, 61):
            self.holds(nested(depth, lambda thing: (thing,)), False)

    def test_what_is_no_field_has_no_walks(self):
        for field in junk():
            self.holds(((0, 0),), False, field)
        self.holds(((0, 0),), False, ())
        self.holds(((0, 0),), False, ((0, 0), (0, 2)))

    def test_all_short_walks(self):
        cells = rectangle(3, 3)
        for field in (RING, ((0, 0), (0, 1), (1, 1)), rectangle(3, 3)):
            for one in cells:
                for two in cells:
                    self.holds((one, two), one in field and two in field and apart(one, two) == 1, field)
                    for three in cells:
                        wanted = {one, two, three} <= set(field) and apart(one, two) == apart(two, three) == 1
                        self.holds((one, two, three), wanted, field)

    def test_nothing_is_changed_and_the_same_is_told(self):
        for thing in ([(0, 0), (0, 1)], ([0, 0], [0, 1]), {(0, 0): [1]}):
            ahead = copy.deepcopy(thing)
            self.holds(thing, False)
            self.holds(thing, False)
            self.assertEqual(thing, ahead)


class Turns(unittest.TestCase):
    def told(self, walk, many):
        self.assertEqual(turns(walk), many)
        self.assertIs(type(turns(walk)), int)
        self.assertEqual(turns(tuple(reversed(walk))), many)

    def test_of_one_cell_and_of_one_step(self):
        self.told(((0, 0),), 0)
        self.told(((30, 30),), 0)
        self.told(((0, 0), (0, 1)), 0)
        self.told(((1, 0), (0, 0)), 0)

    def test_straight_on(self):
        self.told(rectangle(1, 31), 0)
        self.told(rectangle(31, 1), 0)
        self.told(((5, 5), (5, 4), (5, 3)), 0)

    def test_round_a_corner(self):
        self.told(((0, 0), (0, 1), (1, 1)), 1)
        self.told(((0, 0), (0, 1), (0, 2), (1, 2), (2, 2)), 1)
        self.told(((0, 0), (0, 1), (1, 1), (1, 2), (2, 2)), 3)
        self.told(((0, 0), (0, 1), (1, 1), (1, 0), (0, 0)), 3)
        self.told(((0, 1), (1, 1), (1, 0), (1, 1)), 2)

    def test_back_the_way_it_came(self):
        self.told(((0, 0), (0, 1), (0, 0)), 1)
        self.told(((0, 0), (1, 0), (0, 0)), 1)
        self.told(((0, 0), (0, 1)) * 5, 8)
        self.told(((0, 0), (0, 1), (0, 2), (0, 1), (0, 0)), 1)

    def test_only_of_all_turns(self):
        snake = ((0, 0), (0, 1), (0, 2), (1, 2), (1, 1), (1, 0), (2, 0), (2, 1), (2, 2))
        self.told(snake, 4)

    def test_all_small_fields_that_are_walks_of_themselves(self):
        for floor in all_floors(2, 4):
            if is_walk(floor, floor):
                ways = [(b[0] - a[0], b[1] - a[1]) for a, b in zip(floor, floor[1:])]
                self.told(floor, sum(one != two for one, two in zip(ways, ways[1:])))
