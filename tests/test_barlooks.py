import copy
import itertools
import unittest

from mowfloor.barlooks import shows_barred
from mowfloor.bars import barred
from tests.samples import (
    HOLES, RING, Thorny, all_fields, all_pairs, apart, drawn_fields, drawn_text, fields_of, junk, nested,
    pairs_of_cells,
    rectangle, same, small_fields,
)

# From the first to the last cell of a square of nine there are two ways apart, and many a choice of both.
SQUARE = rectangle(3, 3)
A = (0, 0)
B = (2, 2)
CELLS = ((0, 1), (1, 0))
OVER = ((0, 0), (0, 1), (0, 2), (1, 2), (2, 2))
UNDER = ((0, 0), (1, 0), (2, 0), (2, 1), (2, 2))
WAYS = (OVER, UNDER)


def all_ways(field, a, b):
    """Each walk from a to b that has no cell twice."""
    found = []
    going = [(a,)]
    while going:
        way = going.pop()
        if way[-1] == b:
            found.append(way)
        else:
            going.extend(way + (cell,) for cell in field if apart(way[-1], cell) == 1 and cell not in way)
    return sorted(found)


def shows_by_words(field, a, b, cells, ways):
    """Of rising tuples of cells of the field, and of ways of all_ways."""
    if a in cells or b in cells or len(cells) != len(ways):
        return False
    if any(a in part and b in part for part in fields_of(set(field) - set(cells))):
        return False
    between = [cell for way in ways for cell in way[1:-1]]
    return len(between) == len(set(between))


class ShowsBarred(unittest.TestCase):
    def shows(self, cells, ways, truth, field=SQUARE, a=A, b=B):
        self.assertIs(shows_barred(field, a, b, cells, ways), truth)

    def test_what_is_told(self):
        for field in small_fields() + drawn_fields():
            for a, b in pairs_of_cells(field, 8):
                if apart(a, b) > 1:
                    cells, ways = barred(field, a, b)
                    self.shows(cells, ways, True, field, a, b)
                    turned = tuple(sorted(tuple(reversed(way)) for way in ways))
                    self.shows(cells, turned, True, field, b, a)
                    self.shows(cells, turned, False, field, a, b)
                    self.shows(cells[1:], ways, False, field, a, b)
                    self.shows(cells, ways[1:], False, field, a, b)
                    self.shows(cells[:-1], ways[:-1], False, field, a, b)
                    self.shows(ways, cells, False, field, a, b)
                    for cell in set(field) - set(cells):
                        more = tuple(sorted(cells + (cell,)))
                        self.shows(more, ways, False, field, a, b)

    def test_whoever_made_them(self):
        for cells in [CELLS, ((1, 2), (2, 1)), ((0, 1), (1, 0))]:
            self.shows(cells, WAYS, True)
        for over in [OVER, ((0, 0), (0, 1), (1, 1), (1, 2), (2, 2)), ((0, 0), (0, 1), (0, 2), (1, 2), (2, 2))]:
            self.shows(CELLS, (over, UNDER), True)
        self.shows(CELLS, (((0, 0), (0, 1), (0, 2), (1, 2), (1, 1), (2, 1), (2, 2)), UNDER), False)
        row = rectangle(1, 6)
        for column in range(1, 5):
            self.shows(((0, column),), (row,), True, row, (0, 0), (0, 5))
        for column in (0, 5, 6):
            self.shows(((0, column),), (row,), False, row, (0, 0), (0, 5))
        self.shows(((0, 1), (1, 2)), (RING[:3] + ((1, 2), (2, 2)), UNDER), False, RING, A, B)
        for cells in [((0, 1), (1, 0)), ((0, 2), (2, 0)), ((1, 2), (2, 1)), ((1, 0), (1, 2)), ((0, 1), (2, 1))]:
            self.shows(cells, (RING[:3] + ((1, 2), (2, 2)), UNDER), True, RING, A, B)

    def test_a_long_way_round_is_a_way_too(self):
        field = rectangle(2, 3)
        long = ((0, 0), (1, 0), (1, 1), (0, 1), (0, 2))
        ways = (((0, 0), (0, 1), (0, 2)), ((0, 0), (1, 0), (1, 1), (1, 2), (0, 2)))
        self.shows(((0, 1), (1, 1)), ways, True, field, A, (0, 2))
        self.shows(((0, 1), (1, 1)), (long,), False, field, A, (0, 2))
        snake = drawn_text("...\n##.\n...\n")
        self.shows(((1, 2),), (((0, 0), (0, 1), (0, 2), (1, 2), (2, 2), (2, 1), (2, 0)),), True, snake, A, (2, 0))

    def test_alike_or_neighbours(self):
        for field in [rectangle(1, 2), rectangle(2, 2), SQUARE, RING]:
            for a, b in all_pairs(field):
                if apart(a, b) <= 1:
                    self.shows((), (), False, field, a, b)
                    self.shows((), ((a, b),), False, field, a, b)
                    self.shows((), ((a,),), False, field, a, b)
                    for cell in field:
                        self.shows((cell,), ((a, b),), False, field, a, b)
                        self.shows((cell,), ((a, cell, b),), False, field, a, b)
        self.shows(((0, 1),), (((0, 0), (0, 1), (0, 0)),), False, rectangle(1, 2), A, A)
        self.shows((), (), False, ((0, 0),), A, A)

    def test_from_or_to_a_cell_off_the_field(self):
        row = rectangle(1, 4)
        self.shows(((0, 1),), (row[:3],), True, row, (0, 0), (0, 2))
        self.shows(((0, 1),), (row,), False, row[:3], (0, 0), (0, 3))
        self.shows(((0, 2),), (row,), False, row[1:], (0, 0), (0, 3))
        self.shows((), (), False, row, (0, 0), (2, 2))
        self.shows((), (), False, row, (2, 2), (0, 0))
        self.shows((), (), False, row, (2, 2), (5, 5))

    def test_cells_spoilt(self):
        for cells in [
            (), ((0, 1),), ((1, 0),), ((0, 1), (1, 0), (1, 1)), ((0, 1), (0, 1)), ((0, 1), (0, 1), (1, 0)),
            ((1, 0), (0, 1)),
            ((0, 0), (0, 1)), ((0, 0), (1, 0)), ((0, 1), (2, 2)), ((0, 0), (2, 2)), ((0, 0), (0, 1), (1, 0)),
            ((0, 1), (1, 0), (2, 2)), ((0, 1), (0, 3)), ((0, 3), (1, 0)), ((0, 1), (1, 0), (3, 3)), ((-1, 0), (0, 1)),
            ((0, 1), (1, 1)), ((0, 1), (1, 2)), ((0, 2), (1, 1)), ((0, 1), (30, 31)), ((0, 2), (2, 0)),
        ]:
            self.shows(cells, WAYS, False)
            self.shows(cells, WAYS + WAYS[1:], False)
            self.shows(cells, WAYS[:1], False)
        three = ((0, 2), (1, 1), (2, 0))
        self.shows(three, WAYS, False)
        self.shows(three, tuple(sorted(WAYS + (((0, 0), (0, 1), (1, 1), (1, 2), (2, 2)),))), False)

    def test_ways_spoilt(self):
        for ways in [
            (), (OVER,), (UNDER,), (UNDER, OVER), (OVER, OVER), (UNDER, UNDER), (OVER, UNDER, UNDER),
            (OVER, OVER, UNDER),
            (OVER[:2] + OVER[3:], UNDER), (OVER[:1] + OVER[2:], UNDER), (OVER, UNDER[:3] + UNDER[4:]),
            (OVER[:-1], UNDER), (OVER, UNDER[:-1]), (OVER[1:], UNDER), (OVER, UNDER[1:]),
            (OVER + OVER[-1:], UNDER), (OVER[:1] + OVER, UNDER), (OVER[:2] + OVER[1:], UNDER),
            (((0, 0), (0, 1), (0, 0)) + OVER[1:], UNDER), (OVER[:2] + OVER, UNDER), (OVER + ((1, 2), (2, 2)), UNDER),
            (OVER + ((2, 1), (2, 2)), UNDER), (OVER[:3] + OVER[1:], UNDER),
            (OVER[:3] + ((0, 1), (0, 2)) + OVER[3:], UNDER),
            (((0, 0), (0, 1), (1, 1), (1, 0), (2, 0), (2, 1), (2, 2)), UNDER),
            (OVER, ((0, 0), (1, 0), (1, 1), (1, 2), (2, 2))),
            (((0, 0), (0, 1), (1, 1), (1, 2), (2, 2)), ((0, 0), (1, 0), (1, 1), (2, 1), (2, 2))),
            (OVER[:3] + ((0, 3), (1, 3), (1, 2), (2, 2)), UNDER),
            (((0, 0), (-1, 0), (-1, 1), (0, 1)) + OVER[2:], UNDER),
            tuple(reversed([tuple(reversed(way)) for way in WAYS])), tuple(tuple(reversed(way)) for way in WAYS),
            (OVER, tuple(reversed(UNDER))), ((), OVER), (((0, 0),), OVER), (((0, 0), (2, 2)), OVER),
            (((0, 0), (2, 2)), UNDER),
        ]:
            self.shows(CELLS, ways, False)
            self.shows(((1, 2), (2, 1)), ways, False)

    def test_two_ways_where_there_are_three(self):
        field = drawn_text("....\n....\n....\n")
        ways = (((1, 0), (0, 0), (0, 1), (0, 2), (0, 3), (1, 3)), ((1, 0), (1, 1), (1, 2), (1, 3)))
        self.shows(((0, 1), (1, 1)), ways, False, field, (1, 0), (1, 3))
        self.shows(((0, 1), (1, 1), (2, 1)), ways, False, field, (1, 0), (1, 3))
        third = ((1, 0), (2, 0), (2, 1), (2, 2), (2, 3), (1, 3))
        self.shows(((0, 1), (1, 1), (2, 1)), ways + (third,), True, field, (1, 0), (1, 3))
        self.shows(((0, 1), (1, 1), (2, 2)), ways + (third,), True, field, (1, 0), (1, 3))
        self.shows(((0, 1), (1, 2), (2, 0)), ways + (third,), False, field, (1, 0), (1, 3))

    def test_lists_and_truths(self):
        self.shows(list(CELLS), WAYS, False)
        self.shows(CELLS, list(WAYS), False)
        self.shows(CELLS, (list(OVER), UNDER), False)
        self.shows(CELLS, (OVER, list(UNDER)), False)
        self.shows(([0, 1], (1, 0)), WAYS, False)
        self.shows(((0, 1), (1, False)), WAYS, False)
        self.shows(((0, True), (1, 0)), WAYS, False)
        self.shows(((0, 1.0), (1, 0)), WAYS, False)
        for place, (row, column) in enumerate(OVER):
            for cell in [[row, column], (bool(row), column), (row, float(column)), (row,), (row, column, 0), None]:
                self.shows(CELLS, (OVER[:place] + (cell,) + OVER[place + 1:], UNDER), False)

    def test_things_of_any_kind(self):
        for thing in junk():
            self.shows(thing, WAYS, False)
            self.shows(CELLS, thing, False)
            self.shows(thing, thing, False)
            self.shows((thing, (1, 0)), WAYS, same(thing, (0, 1)))
            self.shows(((0, thing), (1, 0)), WAYS, same(thing, 1))
            self.shows(((0, 1), (thing, 0)), WAYS, same(thing, 1))
            self.shows(CELLS, (thing,), False)
            self.shows(CELLS, (OVER, thing), False)
            self.shows(CELLS, (thing, UNDER), False)
            self.shows(CELLS, (OVER, UNDER, thing), False)
            self.shows(CELLS, ((thing,) + OVER[1:], UNDER), same(thing, A))
            self.shows(CELLS, (OVER[:1] + (thing,) + OVER[2:], UNDER), same(thing, (0, 1)))
            self.shows(CELLS, (OVER[:4] + (thing,), UNDER), False)
            self.shows(CELLS, (OVER[:1] + ((0, thing),) + OVER[2:], UNDER), same(thing, 1))
            self.shows(CELLS, WAYS, False, thing)
            self.shows(CELLS, WAYS, same(thing, A), SQUARE, thing)
            self.shows(CELLS, WAYS, False, SQUARE, A, thing)
        for depth in range(1, 61):
            self.shows(nested(depth, lambda thing: (thing,)), WAYS, False)
            self.shows(CELLS, nested(depth, lambda thing: (thing,)), False)
            self.shows(CELLS, nested(depth, lambda thing: [thing]), False)
        self.shows(Thorny(), Thorny(), False)

    def test_all_on_small_fields(self):
        for field in [rectangle(1, 3), rectangle(2, 2), rectangle(2, 3), RING] + all_fields(2, 3)[::3]:
            for a, b in all_pairs(field):
                if apart(a, b) > 1:
                    every = all_ways(field, a, b)
                    for many in range(3):
                        for cells in itertools.combinations(field, many):
                            for several in range(3):
                                for ways in itertools.combinations(every, several):
                                    wanted = shows_by_words(field, a, b, cells, ways)
                                    self.shows(cells, ways, wanted, field, a, b)

    def test_nothing_is_changed_and_the_same_is_told(self):
        for cells, ways in [(list(CELLS), list(WAYS)), ([list(cell) for cell in CELLS], {(0, 0): [1]})]:
            ahead = copy.deepcopy((cells, ways))
            self.shows(cells, ways, False)
            self.shows(cells, ways, False)
            self.assertEqual((cells, ways), ahead)
        self.shows(CELLS, WAYS, True)
        self.shows(CELLS, WAYS, True)
