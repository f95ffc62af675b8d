import copy
import unittest

from mowfloor.errors import NoFit
from mowfloor.floors import is_field, is_floor
from mowfloor.places import mown, never, places, shows_never
from tests.samples import all_floors, apart, drawn, drawn_text, is_plain, junk, rectangle, same

# Two rooms, two wide, behind a door that is one wide; one cell apart.
ROOMS = drawn_text("""
..#..#
.....#
..#..#
######
.#####
""")


def over(place, width):
    return {(place[0] + down, place[1] + right) for down in range(width) for right in range(width)}


def fit(floor, width):
    free = set(floor)
    return [(row, column) for row in range(31) for column in range(31) if over((row, column), width) <= free]


def come_to(floor, width, start):
    fits = fit(floor, width)
    found = {start}
    while True:
        more = {place for place in fits if any(apart(place, other) == 1 for other in found)} - found
        if not more:
            return tuple(sorted(found))
        found |= more


def samples():
    """Floors, each with a width and a start where the mower fits."""
    found = []
    for seed in range(40):
        floor = drawn(seed, 8, 9, 75 + seed % 25)
        for width in range(1, 7):
            fits = fit(floor, width)
            if fits:
                found.append((floor, width, fits[seed % len(fits)]))
    for floor in all_floors(2, 3):
        found.extend((floor, 1, start) for start in floor)
    return found


def walk_over_all(field):
    """A walk that comes to each place, there and back along a tree."""
    walk = [field[0]]
    seen = {field[0]}
    trail = [field[0]]
    while trail:
        further = [place for place in field if apart(place, trail[-1]) == 1 and place not in seen]
        if further:
            seen.add(further[0])
            trail.append(further[0])
        else:
            trail.pop()
        walk.extend(trail[-1:])
    return walk


class Places(unittest.TestCase):
    def test_told(self):
        self.assertEqual(places(((0, 0),), 1, (0, 0)), ((0, 0),))
        self.assertEqual(places(rectangle(3, 4), 2, (1, 1)), rectangle(2, 3))
        self.assertEqual(places(ROOMS, 2, (0, 0)), ((0, 0), (1, 0)))
        self.assertEqual(places(ROOMS, 2, (1, 3)), ((0, 3), (1, 3)))
        self.assertEqual(places(ROOMS, 1, (2, 4)), tuple(cell for cell in ROOMS if cell != (4, 0)))
        self.assertEqual(places(ROOMS, 1, (4, 0)), ((4, 0),))

    def test_each_width_on_the_square_that_just_holds_it(self):
        for width in range(1, 7):
            self.assertEqual(places(rectangle(width, width), width, (0, 0)), ((0, 0),))
            self.assertEqual(places(rectangle(width, width + 1), width, (0, 1)), ((0, 0), (0, 1)))
            last = 31 - width
            whole = rectangle(width, width, last, last)
            self.assertEqual(places(whole, width, (last, last)), ((last, last),))

    def test_as_by_another_way(self):
        for floor, width, start in samples():
            told = places(floor, width, start)
            self.assertEqual(told, come_to(floor, width, start))
            self.assertTrue(is_field(told) and is_plain(told))

    def test_refused_where_it_does_not_fit(self):
        for floor, width, start in [
            ((), 1, (0, 0)), (ROOMS, 1, (0, 2)), (ROOMS, 1, (30, 30)), (ROOMS, 2, (1, 1)), (ROOMS, 2, (0, 2)),
            (ROOMS, 2, (2, 0)), (ROOMS, 3, (0, 0)), (rectangle(6, 6), 6, (0, 1)), (rectangle(6, 5), 6, (0, 0)),
            (rectangle(31, 31), 2, (30, 30)), (rectangle(31, 31), 2, (0, 30)), (rectangle(31, 31), 2, (30, 0)),
            (rectangle(31, 31), 6, (26, 0)), (drawn_text(".. .#"), 2, (0, 0)), (drawn_text("#. .."), 2, (0, 0)),
        ]:
            with self.assertRaises(NoFit):
                places(floor, width, start)
            with self.assertRaises(NoFit):
                never(floor, width, start, (0, 0))

    def test_refused_just_where_it_does_not_fit(self):
        for seed in range(10):
            floor = drawn(seed, 6, 6, 85)
            for width in range(1, 5):
                fits = fit(floor, width)
                for start in rectangle(7, 7):
                    if start in fits:
                        self.assertIn(start, places(floor, width, start))
                    else:
                        self.assertRaises(NoFit, places, floor, width, start)


class Mown(unittest.TestCase):
    def test_told(self):
        self.assertEqual(mown(((3, 4),), 1), ((3, 4),))
        self.assertEqual(mown(((3, 4),), 2), ((3, 4), (3, 5), (4, 4), (4, 5)))
        self.assertEqual(mown(rectangle(2, 3), 2), rectangle(3, 4))
        self.assertEqual(mown(((0, 0), (0, 1), (1, 1)), 2), drawn_text("... ... #.."))
        for width in range(1, 7):
            self.assertEqual(mown(((0, 0),), width), rectangle(width, width))

    def test_a_walk_over_all_places_mows_just_these(self):
        for floor, width, start in samples():
            field = places(floor, width, start)
            told = mown(field, width)
            self.assertTrue(is_floor(told) and is_plain(told))
            self.assertEqual(set(told), set().union(*[over(place, width) for place in walk_over_all(field)]))
            self.assertLessEqual(set(told), set(floor))


class Never(unittest.TestCase):
    def test_told(self):
        self.assertEqual(never(ROOMS, 2, (0, 0), (1, 2)), ((0, 0), (1, 0)))
        self.assertEqual(never(ROOMS, 2, (0, 0), (4, 0)), ((0, 0), (1, 0)))
        self.assertIsNone(never(ROOMS, 2, (0, 0), (2, 1)))
        self.assertIsNone(never(ROOMS, 1, (0, 0), (2, 4)))
        self.assertEqual(never(ROOMS, 1, (4, 0), (0, 0)), ((4, 0),))

    def test_none_just_of_what_is_mown_and_else_a_paper_that_shows_it(self):
        for floor, width, start in samples():
            field = places(floor, width, start)
            cells = mown(field, width)
            for cell in floor:
                told = never(floor, width, start, cell)
                if cell in cells:
                    self.assertIsNone(told)
                else:
                    self.assertEqual(told, field)
                self.assertIs(shows_never(floor, width, start, cell, field), cell not in cells)


class ShowsNever(unittest.TestCase):
    def shows(self, thing, truth, cell=(1, 2), start=(0, 0), width=2, floor=ROOMS):
        self.assertIs(shows_never(floor, width, start, cell, thing), truth)

    def test_what_is_told(self):
        self.shows(((0, 0), (1, 0)), True)
        self.shows(((0, 3), (1, 3)), True, start=(1, 3))
        self.shows(((0, 0), (1, 0)), True, cell=(0, 4))
        self.shows(((4, 0),), True, cell=(0, 0), start=(4, 0), width=1)

    def test_cells_that_it_mows(self):
        for cell in rectangle(3, 2):
            self.shows(((0, 0), (1, 0)), False, cell=cell)

    def test_a_place_fewer(self):
        self.shows(((0, 0),), False)
        self.shows(((1, 0),), False)
        self.shows(((0, 0),), False, start=(1, 0))
        self.shows((), False)

    def test_a_place_more(self):
        self.shows(((0, 0), (0, 1), (1, 0)), False)
        self.shows(((0, 0), (0, 3), (1, 0)), False)
        self.shows(((0, 0), (1, 0), (2, 0)), False)
        self.shows(((0, 0), (1, 0), (30, 30)), False)

    def test_all_places_of_a_further_part_do_no_harm(self):
        self.shows(((0, 0), (0, 3), (1, 0), (1, 3)), True)
        self.shows(((0, 0), (0, 3), (1, 0), (1, 3)), True, start=(0, 3))
        self.shows(((0, 0), (0, 3), (1, 0), (1, 3)), False, cell=(0, 3))
        self.shows(((0, 3), (1, 3)), False)

    def test_not_rising_or_twice(self):
        self.shows(((1, 0), (0, 0)), False)
        self.shows(((0, 0), (0, 0), (1, 0)), False)
        self.shows(((0, 0), (1, 0), (1, 0)), False)

    def test_lists_and_truths(self):
        for thing in [
            [(0, 0), (1, 0)], ([0, 0], [1, 0]), ((0, 0), [1, 0]), [[0, 0], [1, 0]], ((False, 0), (1, 0)),
            ((0, 0), (True, 0)), ((0, 0), (1, False)), ((0, False), (1, 0)), {(0, 0): 0, (1, 0): 0}, {(0, 0), (1, 0)},
        ]:
            self.shows(thing, False)

    def test_numbers_that_are_none(self):
        self.shows(((0, 0), (1.0, 0)), False)
        self.shows(((0, 0), (1, 0.0)), False)

    def test_anything(self):
        for thing in junk():
            self.shows(thing, False)
            self.shows(((0, 0), (1, 0), thing), False)
            self.shows(((0, 0), (thing, 0)), same(thing, 1))
            self.shows(((0, 0), (1, thing)), same(thing, 0))

    def test_a_start_where_it_does_not_fit(self):
        for start in [(0, 2), (2, 0), (30, 30), (3, 3), (1, 1)]:
            self.shows(((0, 0), (1, 0)), False, start=start)
            self.shows((start,), False, start=start)
            self.shows((), False, start=start)
            self.shows(tuple(sorted([(0, 0), (1, 0), start])), False, start=start)
        self.shows((), False, floor=())
        self.shows(((0, 0),), False, floor=())

    def test_by_all_sets_of_places(self):
        floor = drawn_text("..# ..# #..")
        for width in (1, 2):
            fits = fit(floor, width)
            for start in rectangle(3, 3):
                for cell in floor:
                    for paper in all_floors(3, 3):
                        closed = all(
                            place in fits and cell not in over(place, width) and
                            all(other in paper for other in fits if apart(place, other) == 1) for place in paper
                        )
                        wanted = start in paper and closed
                        self.assertIs(shows_never(floor, width, start, cell, paper), wanted)


class Unchanged(unittest.TestCase):
    def test_nothing_is_changed_and_the_same_is_told(self):
        for thing in ([(0, 0), (1, 0)], ([0, 0], [1, 0]), {(0, 0): [1]}):
            ahead = copy.deepcopy(thing)
            for again in range(2):
                self.assertIs(shows_never(ROOMS, 2, (0, 0), (1, 2), thing), False)
            self.assertEqual(thing, ahead)
        for floor, width, start in samples()[:40]:
            field = places(floor, width, start)
            self.assertEqual(places(floor, width, start), field)
            self.assertEqual(mown(field, width), mown(field, width))
            self.assertEqual(never(floor, width, start, floor[0]), never(floor, width, start, floor[0]))
