import copy
import itertools
import unittest

from mowfloor.along import all_lanes
from mowfloor.fences import fences
from mowfloor.walklooks import shows_walk
from tests.samples import (
    RING, Thorny, apart, are_fences_by_words, comb, drawn_fields, junk, lanes_by_words, nested, odd_by_words, pairs_of_cells,
    rectangle, same, small_fields, steps_by_words,
)

# A row, from its second cell to its last one: the first lane is gone twice, and one fence shows it.
ROW = rectangle(1, 4)
A = (0, 1)
B = (0, 3)
WALK = ((0, 1), (0, 0), (0, 1), (0, 2), (0, 3))
FENCES = (((0, 0),),)


def all_walks(field, many):
    """Each walk of at most so many cells."""
    found = [(cell,) for cell in field]
    longer = found
    for _ in range(many - 1):
        longer = [walk + (cell,) for walk in longer for cell in field if apart(walk[-1], cell) == 1]
        found = found + longer
    return found


class ShowsWalk(unittest.TestCase):
    def shows(self, walk, thing, truth, field=ROW, a=A, b=B):
        self.assertIs(shows_walk(field, a, b, walk, thing), truth)

    def test_what_is_told(self):
        for field in small_fields() + drawn_fields() + [comb(6)]:
            for a, b in pairs_of_cells(field, 6):
                if len(odd_by_words(field, a, b)) <= 14:
                    walk = all_lanes(field, a, b)
                    shown = fences(field, a, b)
                    self.shows(walk, shown, True, field, a, b)
                    self.shows(tuple(reversed(walk)), shown, True, field, b, a)
                    self.shows(tuple(reversed(walk)), shown, a == b, field, a, b)
                    self.shows(walk[:-1], shown, False, field, a, b)
                    self.shows(walk[1:], shown, False, field, a, b)
                    self.shows(walk, shown[1:], not shown, field, a, b)
                    self.shows(walk, shown[:-1], not shown, field, a, b)

    def test_whoever_made_them(self):
        self.shows(WALK, FENCES, True)
        self.shows(WALK, (((0, 1), (0, 2), (0, 3)),), True)
        self.shows(WALK, (((0, 0), (0, 2)),), True)
        self.shows(WALK, (((0, 1),),), True)
        self.shows(WALK, (((0, 0), (0, 1)),), False)
        square = rectangle(2, 2)
        for walk in [
            ((0, 0), (0, 1), (1, 1), (1, 0), (0, 0), (0, 1), (1, 1)),
            ((0, 0), (1, 0), (1, 1), (0, 1), (0, 0), (0, 1), (1, 1)),
            ((0, 0), (0, 1), (0, 0), (1, 0), (1, 1), (0, 1), (1, 1)),
        ]:
            for thing in [(((0, 0),), ((1, 1),)), (((0, 0),), ((0, 0), (0, 1), (1, 0)))]:
                self.shows(walk, thing, True, square, (0, 0), (1, 1))

    def test_none_gone_twice(self):
        self.shows(((0, 0),), (), True, ((0, 0),), (0, 0), (0, 0))
        self.shows(ROW, (), True, ROW, (0, 0), (0, 3))
        self.shows(ROW, (((0, 0),),), False, ROW, (0, 0), (0, 3))
        self.shows((), (), False, ((0, 0),), (0, 0), (0, 0))
        self.shows(((0, 0), (0, 0)), (), False, ((0, 0),), (0, 0), (0, 0))
        self.shows(((0, 0), (0, 0)), (((0, 0),),), False, ((0, 0),), (0, 0), (0, 0))

    def test_a_walk_that_goes_along_not_all_lanes(self):
        self.shows(((0, 1), (0, 2), (0, 1), (0, 2), (0, 3)), FENCES, False)
        self.shows(((0, 1), (0, 2), (0, 3), (0, 2), (0, 3)), FENCES, False)
        self.shows(((0, 1), (0, 2), (0, 3)), FENCES, False)
        self.shows(((0, 1), (0, 2), (0, 3)), (), False)
        three = ((0, 0), (0, 1), (1, 1), (1, 0))
        self.shows(three, (), False, rectangle(2, 2), (0, 0), (1, 0))
        self.shows(three + ((0, 0),), (), True, rectangle(2, 2), (0, 0), (0, 0))

    def test_more_steps_than_fences(self):
        self.shows(((0, 1), (0, 0), (0, 1), (0, 0), (0, 1), (0, 2), (0, 3)), FENCES, False)
        self.shows(WALK + ((0, 2), (0, 3)), FENCES, False)
        self.shows(WALK + ((0, 2), (0, 3)), (((0, 0),), ((0, 0), (0, 2)), ((0, 1),)), False)
        self.shows(RING[:1], (), False, RING, (0, 0), (0, 0))
        once = ((0, 0), (0, 1), (0, 2), (1, 2), (2, 2), (2, 1), (2, 0), (1, 0), (0, 0))
        self.shows(once, (), True, RING, (0, 0), (0, 0))
        self.shows(once + once[1:], (), False, RING, (0, 0), (0, 0))
        self.shows(once + once[1:2] + once[:1], (), False, RING, (0, 0), (0, 0))

    def test_from_and_to_other_cells(self):
        self.shows(tuple(reversed(WALK)), FENCES, False)
        self.shows(WALK + ((0, 2),), FENCES, False)
        self.shows(WALK[1:], FENCES, False)
        self.shows(WALK[:4], FENCES, False)
        two = ((0, 0), (0, 1))
        self.shows(two, (), True, two, (0, 0), (0, 1))
        self.shows(two, (), False, two, (0, 1), (0, 0))
        self.shows(two, (), False, two, (0, 0), (0, 0))
        self.shows(two, (), False, two, (0, 1), (0, 1))
        self.shows(two + ((0, 0),), FENCES, True, two, (0, 0), (0, 0))
        self.shows(two + ((0, 0),), FENCES, False, two, (0, 1), (0, 1))
        once = ((0, 0), (0, 1), (0, 2), (1, 2), (2, 2), (2, 1), (2, 0), (1, 0), (0, 0))
        self.shows(once, (), False, RING, (0, 1), (0, 1))

    def test_what_is_no_walk(self):
        for walk in [
            ((0, 1), (0, 0), (0, 2), (0, 3)), ((0, 1), (0, 0), (0, 1), (0, 3)), WALK[:4] + ((1, 3), (0, 3)),
            WALK[:1] + WALK, WALK + WALK[-1:], ((0, 1), (0, 0), (0, -1), (0, 0), (0, 1), (0, 2), (0, 3)), (),
        ]:
            self.shows(walk, FENCES, False)

    def test_what_are_no_fences(self):
        for thing in [
            (), (((0, 0),), ((0, 1),)), (((0, 0),), ((0, 0),)), (((0, 0), (0, 0)),), (((0, 1), (0, 0)),), ((),), (((0, 2),),),
            (((0, 3),),), (((0, 4),),), (((0, 0), (0, 4)),), ((0, 0),), ((((0, 0),),),), (ROW,),
        ]:
            self.shows(WALK, thing, False)

    def test_more_than_14_odd_cells(self):
        field = comb(8)
        walk = ()
        for column in range(17):
            walk = walk + (((0, column), (1, column), (0, column)) if column % 2 else ((0, column),))
        ends = tuple(((1, column),) for column in range(1, 16, 2))
        self.shows(walk, ends, True, field, (0, 0), (0, 16))
        self.shows(walk, ends[1:], False, field, (0, 0), (0, 16))

    def test_lists_and_truths(self):
        self.shows(list(WALK), FENCES, False)
        self.shows(WALK, list(FENCES), False)
        self.shows(WALK, (list(FENCES[0]),), False)
        self.shows(WALK, (([0, 0],),), False)
        self.shows(WALK, (((False, 0),),), False)
        for place in range(len(WALK)):
            row, column = WALK[place]
            for cell in [[row, column], (False, column), (row, float(column)), (row,), (row, column, 0), None]:
                self.shows(WALK[:place] + (cell,) + WALK[place + 1:], FENCES, False)
        self.shows(((0, True),) + WALK[1:], FENCES, False)

    def test_things_of_any_kind(self):
        for thing in junk():
            self.shows(thing, FENCES, False)
            self.shows(WALK, thing, same(thing, FENCES))
            self.shows(thing, thing, False)
            self.shows(WALK, (thing,), same(thing, ((0, 0),)))
            self.shows(WALK[:2] + (thing,) + WALK[3:], FENCES, same(thing, (0, 1)))
            self.shows(WALK[:4] + (thing,), FENCES, False)
            self.shows((thing,) + WALK[1:], FENCES, same(thing, (0, 1)))
            self.shows(WALK[:1] + ((0, thing),) + WALK[2:], FENCES, same(thing, 0))
            self.shows(WALK[:1] + ((thing, 0),) + WALK[2:], FENCES, same(thing, 0))
            self.shows(WALK, ((thing,),), same(thing, (0, 0)) or same(thing, (0, 1)))
            self.shows(WALK, (((thing, 0),),), same(thing, 0))
            self.shows(WALK, FENCES, False, thing)
        for depth in range(1, 61):
            self.shows(nested(depth, lambda thing: (thing,)), FENCES, False)
            self.shows(WALK, nested(depth, lambda thing: (thing,)), False)
            self.shows(nested(depth, lambda thing: [thing]), FENCES, False)
        self.shows(Thorny(), Thorny(), False)

    def test_both_exchanged(self):
        self.shows(FENCES, WALK, False)
        self.shows(WALK, WALK, False)
        self.shows(FENCES, FENCES, False)

    def test_all_on_small_fields(self):
        for field in [rectangle(1, 2), rectangle(1, 3), rectangle(2, 2), ((0, 0), (0, 1), (0, 2), (1, 1))]:
            subsets = [some for many in range(1, 4) for some in itertools.combinations(field, many)]
            every = [some for many in range(3) for some in itertools.combinations(sorted(subsets), many)]
            for a, b in [(field[0], field[0]), (field[0], field[-1])]:
                right = [thing for thing in every if are_fences_by_words(field, a, b, thing)]
                for walk in all_walks(field, 6):
                    along = set(steps_by_words(field, walk)) == set(lanes_by_words(field))
                    for thing in right[::3] + every[::29]:
                        wanted = (walk[0], walk[-1]) == (a, b) and along and thing in right
                        wanted = wanted and len(thing) == len(walk) - 1 - len(lanes_by_words(field))
                        self.shows(walk, thing, wanted, field, a, b)

    def test_nothing_is_changed_and_the_same_is_told(self):
        for walk, thing in [(list(WALK), list(FENCES)), ([list(cell) for cell in WALK], {(0, 0): [1]})]:
            ahead = copy.deepcopy((walk, thing))
            self.shows(walk, thing, False)
            self.shows(walk, thing, False)
            self.assertEqual((walk, thing), ahead)
        self.shows(WALK, FENCES, True)
        self.shows(WALK, FENCES, True)
