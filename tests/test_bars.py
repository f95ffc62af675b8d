import itertools
import unittest

from mowfloor.bars import barred
from mowfloor.errors import MowError, Near
from tests.samples import (
    COMB, HOLES, RING, all_fields, all_pairs, apart, comb, drawn, drawn_fields, drawn_text, fields_of, is_plain,
    pairs_of_cells, rectangle, small_fields, steps_by_words,
)

# The way that is found first must be moved for a second one: here one of its cells is left by all ways.
MOVED = drawn_text("""
.####.#.
..##....
.#..#...
.....#.#
..##.#.#
.......#
#..#..##
##...###
""")


def bars(field, a, b, cells):
    """Whether each walk from a to b has one of the cells."""
    return not any(a in part and b in part for part in fields_of(set(field) - set(cells)))


def far_pairs(field):
    return [(a, b) for a, b in all_pairs(field) if apart(a, b) > 1]


class Barred(unittest.TestCase):
    def right(self, field, a, b):
        told = barred(field, a, b)
        self.assertTrue(type(told) is tuple and len(told) == 2 and is_plain(told))
        cells, ways = told
        self.assertTrue(type(cells) is tuple and type(ways) is tuple)
        self.assertEqual(list(cells), sorted(set(cells)))
        self.assertLessEqual(set(cells), set(field) - {a, b})
        self.assertTrue(bars(field, a, b, cells))
        self.assertEqual(len(ways), len(cells))
        self.assertEqual(list(ways), sorted(set(ways)))
        between = []
        for way in ways:
            steps_by_words(field, way)
            self.assertEqual((way[0], way[-1]), (a, b))
            between.extend(way[1:-1])
        self.assertEqual(len(set(between)), len(between))
        self.assertTrue(a not in between and b not in between)
        return told

    def test_where_there_is_one_choice_alone(self):
        row = rectangle(1, 3)
        self.assertEqual(barred(row, (0, 0), (0, 2)), (((0, 1),), (row,)))
        self.assertEqual(barred(row, (0, 2), (0, 0)), (((0, 1),), (tuple(reversed(row)),)))
        self.assertEqual(
            barred(rectangle(2, 2), (0, 0), (1, 1)),
            (((0, 1), (1, 0)), (((0, 0), (0, 1), (1, 1)), ((0, 0), (1, 0), (1, 1)))),
        )
        self.assertEqual(
            barred(rectangle(2, 2, 5, 6), (6, 6), (5, 7)),
            (((5, 6), (6, 7)), (((6, 6), (5, 6), (5, 7)), ((6, 6), (6, 7), (5, 7)))),
        )

    def test_how_many(self):
        self.assertEqual(len(self.right(rectangle(1, 31), (0, 0), (0, 30))[0]), 1)
        self.assertEqual(len(self.right(RING, (0, 1), (2, 1))[0]), 2)
        self.assertEqual(len(self.right(rectangle(3, 3), (0, 0), (2, 2))[0]), 2)
        self.assertEqual(len(self.right(rectangle(3, 3), (0, 1), (2, 1))[0]), 3)
        self.assertEqual(len(self.right(rectangle(5, 5), (1, 1), (3, 3))[0]), 4)
        self.assertEqual(len(self.right(rectangle(14, 14), (4, 4), (9, 9))[0]), 4)
        self.assertEqual(len(self.right(rectangle(14, 14), (0, 4), (9, 9))[0]), 3)
        self.assertEqual(len(self.right(rectangle(14, 14), (13, 0), (9, 9))[0]), 2)
        self.assertEqual(len(self.right(COMB, (2, 0), (2, 6))[0]), 1)

    def test_a_narrow_place_bars_wide_ones(self):
        field = drawn_text("""
        ...#...
        .......
        ...#...
        """)
        self.assertIn(self.right(field, (1, 0), (1, 6))[0], [((1, 2),), ((1, 3),), ((1, 4),)])
        self.assertIn(self.right(field, (0, 0), (1, 5))[0], [((1, 2),), ((1, 3),), ((1, 4),)])
        self.assertEqual(self.right(field, (1, 2), (1, 4))[0], ((1, 3),))
        self.assertEqual(len(self.right(field, (1, 0), (0, 2))[0]), 2)

    def test_a_way_that_must_be_moved(self):
        for a, b in [((5, 5), (4, 0)), ((4, 0), (5, 5))]:
            self.assertEqual(len(self.right(MOVED, a, b)[0]), 2)
        field = drawn_text("""
        #...
        #...
        #..#
        """)
        for a, b in [((0, 3), (2, 2)), ((2, 2), (0, 3))]:
            self.assertEqual(len(self.right(field, a, b)[0]), 2)

    def test_all_sets_tried_on_small_fields(self):
        for field in all_fields(3, 3) + all_fields(2, 4):
            for a, b in far_pairs(field):
                cells, ways = self.right(field, a, b)
                others = [cell for cell in field if cell not in (a, b)]
                for many in range(len(cells)):
                    for some in itertools.combinations(others, many):
                        self.assertFalse(bars(field, a, b, some))

    def test_all_sets_tried_on_named_fields(self):
        for field in small_fields():
            for a, b in pairs_of_cells(field, 8):
                if apart(a, b) > 1:
                    cells, ways = self.right(field, a, b)
                    others = [cell for cell in field if cell not in (a, b)]
                    for some in itertools.combinations(others, len(cells) - 1):
                        self.assertFalse(bars(field, a, b, some))

    def test_all_pairs_of_named_fields(self):
        for field in small_fields() + [HOLES, comb(4), rectangle(4, 5)]:
            for a, b in far_pairs(field):
                self.right(field, a, b)

    def test_larger_fields(self):
        found = []
        for field in drawn_fields() + [drawn_field(seed) for seed in range(300)]:
            for a, b in pairs_of_cells(field, 6):
                if apart(a, b) > 1:
                    found.append(len(self.right(field, a, b)[0]))
        self.assertEqual(set(found), {1, 2, 3, 4})

    def test_near(self):
        for field in small_fields():
            for a, b in all_pairs(field):
                if apart(a, b) <= 1:
                    with self.assertRaises(Near) as caught:
                        barred(field, a, b)
                    self.assertIs(type(caught.exception), Near)
                    self.assertIsInstance(caught.exception, MowError)

    def test_not_near(self):
        self.right(rectangle(2, 2), (0, 0), (1, 1))
        self.right(rectangle(2, 2), (0, 1), (1, 0))
        self.right(rectangle(1, 3), (0, 0), (0, 2))
        self.right(rectangle(3, 1), (2, 0), (0, 0))
        self.right(RING, (1, 0), (1, 2))

    def test_the_same_is_told_again(self):
        for field in small_fields():
            for a, b in far_pairs(field)[::5]:
                self.assertEqual(barred(field, a, b), barred(tuple(list(field)), a, b))


def drawn_field(seed):
    return max(fields_of(drawn(seed, 8, 8, 80)), key=len)
