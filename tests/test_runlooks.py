import copy
import itertools
import unittest

from mowfloor.fewest import fewest_runs
from mowfloor.runlooks import shows_fewest
from tests.samples import all_floors, all_runs, drawn_floors, drawn_text, held, junk, nested, rectangle, same

# Two rows and, below the gap, a column of its own: three runs at least.
FLOOR = drawn_text("""
....#
....#
####.
####.
""")
SOME = (("down", (2, 4), 2), ("right", (0, 0), 4), ("right", (1, 0), 4))
CELLS = ((0, 0), (1, 1), (2, 4))


def by_words(floor, some, cells):
    """Whether they are such, where both are rising tuples of runs and of cells."""
    if len(some) != len(cells) or {cell for run in some for cell in held(run)} != set(floor):
        return False
    return all(len(set(held(run)) & set(cells)) <= 1 for run in all_runs(floor))


class ShowsFewest(unittest.TestCase):
    def shows(self, some, cells, truth, floor=FLOOR):
        self.assertIs(shows_fewest(floor, some, cells), truth)

    def test_what_is_told(self):
        for floor in drawn_floors() + all_floors(3, 3) + [FLOOR, rectangle(31, 31)]:
            some, cells = fewest_runs(floor)
            self.shows(some, cells, True, floor)

    def test_other_right_answers(self):
        self.shows(SOME, CELLS, True)
        self.shows(SOME, ((0, 3), (1, 0), (3, 4)), True)
        square = rectangle(2, 2)
        for some in ((("down", (0, 0), 2), ("down", (0, 1), 2)), (("right", (0, 0), 2), ("right", (1, 0), 2))):
            for cells in (((0, 0), (1, 1)), ((0, 1), (1, 0))):
                self.shows(some, cells, True, square)
        self.shows((("down", (0, 0), 1),), ((0, 0),), True, ((0, 0),))
        self.shows((("right", (0, 0), 1),), ((0, 0),), True, ((0, 0),))

    def test_no_cells(self):
        self.shows((), (), True, ())
        self.shows((("down", (0, 0), 1),), ((0, 0),), False, ())
        self.shows((), ((0, 0),), False, ())
        self.shows((("down", (0, 0), 0),), (), False, ())
        self.shows([], [], False, ())
        self.shows((), [], False, ())
        self.shows([], (), False, ())
        self.shows((), (), False)
        self.shows((), (), False, ((0, 0),))

    def test_a_run_or_a_cell_fewer(self):
        for place in range(3):
            fewer_runs = SOME[:place] + SOME[place + 1:]
            fewer_cells = CELLS[:place] + CELLS[place + 1:]
            self.shows(fewer_runs, CELLS, False)
            self.shows(SOME, fewer_cells, False)
            self.shows(fewer_runs, fewer_cells, False)

    def test_a_run_or_a_cell_more(self):
        more_runs = tuple(sorted(SOME + (("down", (0, 0), 2),)))
        more_cells = tuple(sorted(CELLS + ((0, 1),)))
        self.shows(more_runs, CELLS, False)
        self.shows(SOME, more_cells, False)
        self.shows(more_runs, more_cells, False)

    def test_twice(self):
        self.shows(SOME[:1] + SOME, CELLS, False)
        self.shows(SOME[:1] + SOME, CELLS[:1] + CELLS, False)
        self.shows(SOME, CELLS[:1] + CELLS, False)
        self.shows(SOME[:1] + SOME[:1] + SOME[1:2], CELLS, False)
        self.shows(SOME, CELLS[:1] + CELLS[:1] + CELLS[1:2], False)
        self.shows(SOME, CELLS[:2] + CELLS[1:2], False)

    def test_not_rising(self):
        for order in itertools.permutations(range(3)):
            self.shows(tuple(SOME[place] for place in order), CELLS, order == (0, 1, 2))
            self.shows(SOME, tuple(CELLS[place] for place in order), order == (0, 1, 2))

    def test_runs_that_are_none_of_the_floor(self):
        for run in [
            ("right", (0, 0), 3), ("right", (0, 0), 5), ("right", (0, 1), 3), ("right", (0, 1), 4), ("right", (0, 0), 0),
            ("right", (0, 0), -4), ("down", (0, 0), 4), ("right", (2, 0), 4), ("right", (-1, 0), 4), ("up", (0, 0), 4),
            ("", (0, 0), 4), ("Right", (0, 0), 4), ("right ", (0, 0), 4), ("left", (0, 3), 4), ("right", (0, 0), 10 ** 30),
        ]:
            self.shows(tuple(sorted((SOME[0], run, SOME[2]))), CELLS, False)

    def test_a_shorter_run_that_would_still_do(self):
        bar = ((0, 0), (0, 1), (0, 2), (1, 0))
        self.shows((("down", (0, 0), 2), ("right", (0, 0), 3)), ((0, 1), (1, 0)), True, bar)
        self.shows((("down", (0, 0), 2), ("right", (0, 1), 2)), ((0, 1), (1, 0)), False, bar)
        self.shows((("down", (0, 0), 2), ("right", (0, 0), 3)), ((0, 0), (1, 0)), False, bar)

    def test_the_other_word(self):
        self.shows((("down", (2, 4), 2), ("down", (0, 0), 4), ("right", (1, 0), 4)), CELLS, False)
        self.shows((("down", (0, 0), 2), ("down", (2, 4), 2), ("right", (1, 0), 4)), CELLS, False)
        self.shows((("right", (0, 0), 4), ("right", (1, 0), 4), ("right", (2, 4), 1)), CELLS, False)

    def test_cells_off_the_floor(self):
        for cell in [(2, 3), (0, 4), (4, 4), (30, 30)]:
            self.shows(SOME, tuple(sorted(CELLS[:2] + (cell,))), False)
        self.shows(SOME, ((-1, 0),) + CELLS[1:], False)
        self.shows(SOME, ((0, 0), (1, 1), (31, 31)), False)

    def test_two_cells_in_one_run(self):
        self.shows(SOME, ((0, 0), (0, 1), (2, 4)), False)
        self.shows(SOME, ((0, 0), (1, 0), (2, 4)), False)
        self.shows(SOME, ((0, 0), (2, 4), (3, 4)), False)
        self.shows(SOME, ((0, 0), (0, 3), (3, 4)), False)

    def test_too_many_runs_with_as_many_cells(self):
        square = rectangle(2, 2)
        whole = tuple(sorted(all_runs(square)))
        self.shows(whole, square, False, square)
        self.shows(whole[:3], square[:3], False, square)

    def test_both_exchanged(self):
        self.shows(CELLS, SOME, False)
        self.shows(CELLS, CELLS, False)
        self.shows(SOME, SOME, False)
        self.shows((SOME, CELLS), CELLS, False)

    def test_lists(self):
        self.shows(list(SOME), CELLS, False)
        self.shows(SOME, list(CELLS), False)
        for place in range(3):
            run = SOME[place]
            for other in (list(run), (run[0], list(run[1]), run[2])):
                self.shows(SOME[:place] + (other,) + SOME[place + 1:], CELLS, False)
            self.shows(SOME, CELLS[:place] + (list(CELLS[place]),) + CELLS[place + 1:], False)

    def test_truths_in_the_place_of_numbers(self):
        one = ((0, 0),)
        for run in [("down", (False, 0), 1), ("down", (0, False), 1), ("down", (0, 0), True), ("down", (0, 0), 1.0)]:
            self.shows((run,), one, False, one)
        for cell in [(False, 0), (0, False), (0.0, 0), (0, 0.0)]:
            self.shows((("down", (0, 0), 1),), (cell,), False, one)

    def test_things_of_other_kinds_in_every_place(self):
        for thing in junk():
            self.shows(thing, CELLS, False)
            self.shows(SOME, thing, False)
            self.shows(thing, thing, False)
            self.shows(thing, thing, False, ())
            self.shows((), thing, False, ())
            self.shows(thing, (), False, ())
            self.shows((thing,) + SOME[1:], CELLS, False)
            self.shows(SOME[:2] + (thing,), CELLS, False)
            self.shows((thing, thing, thing), CELLS, False)
            self.shows(SOME, (thing,) + CELLS[1:], same(thing, (0, 0)))
            self.shows(SOME, CELLS[:2] + (thing,), False)
            self.shows(SOME, ((0, thing),) + CELLS[1:], same(thing, 0))
            self.shows(SOME, ((thing, 0),) + CELLS[1:], same(thing, 0))
            self.shows(((thing, (2, 4), 2),) + SOME[1:], CELLS, same(thing, "down"))
            self.shows((("down", thing, 2),) + SOME[1:], CELLS, False)
            self.shows((("down", (thing, 4), 2),) + SOME[1:], CELLS, False)
            self.shows((("down", (2, thing), 2),) + SOME[1:], CELLS, False)
            self.shows((("down", (2, 4), thing),) + SOME[1:], CELLS, False)

    def test_runs_too_short_or_too_long(self):
        for run in [(), ("down",), ("down", (2, 4)), ("down", (2, 4), 2, 2), ("down", (2, 4, 2)), ("down", (2,), 2)]:
            self.shows((run,) + SOME[1:], CELLS, False)

    def test_depths(self):
        for depth in range(1, 61):
            for wrap in (lambda thing: (thing,), lambda thing: [thing]):
                self.shows(nested(depth, wrap), CELLS, False)
                self.shows(SOME, nested(depth, wrap), False)

    def test_all_answers_on_small_floors(self):
        for floor in all_floors(2, 2) + [((0, 0), (0, 1), (0, 2), (1, 1))]:
            every = sorted(all_runs(floor))
            for many in range(len(every) + 1):
                for some in itertools.combinations(every, many):
                    for cells in itertools.chain(*[itertools.combinations(floor, few) for few in range(len(floor) + 1)]):
                        self.shows(some, cells, by_words(floor, some, cells), floor)

    def test_nothing_is_changed_and_the_same_is_told(self):
        for some, cells in [(list(SOME), list(CELLS)), ([list(run) for run in SOME], {(0, 0): [1]})]:
            ahead = copy.deepcopy((some, cells))
            self.shows(some, cells, False)
            self.shows(some, cells, False)
            self.assertEqual((some, cells), ahead)
        self.shows(SOME, CELLS, True)
        self.shows(SOME, CELLS, True)
