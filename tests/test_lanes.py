import unittest

from mowfloor.lanes import lanes, odd_cells
from tests.samples import (
    COMB, HOLES, RING, all_fields, all_pairs, comb, drawn_fields, is_plain, lanes_by_words, odd_by_words,
    pairs_of_cells, rectangle, small_fields,
)


class Lanes(unittest.TestCase):
    def test_of_a_few_cells(self):
        self.assertEqual(lanes(((0, 0),)), ())
        self.assertEqual(lanes(((30, 30),)), ())
        self.assertEqual(lanes(((0, 0), (0, 1))), (((0, 0), (0, 1)),))
        self.assertEqual(lanes(((7, 3), (8, 3))), (((7, 3), (8, 3)),))
        self.assertEqual(
            lanes(rectangle(2, 2)),
            (((0, 0), (0, 1)), ((0, 0), (1, 0)), ((0, 1), (1, 1)), ((1, 0), (1, 1))),
        )

    def test_how_many(self):
        self.assertEqual(len(lanes(rectangle(1, 31))), 30)
        self.assertEqual(len(lanes(rectangle(3, 3))), 12)
        self.assertEqual(len(lanes(rectangle(14, 14))), 364)
        self.assertEqual(len(lanes(RING)), 8)
        self.assertEqual(len(lanes(COMB)), 14)
        self.assertEqual(len(lanes(comb(7))), 21)

    def test_all_lanes_rising(self):
        for field in small_fields() + drawn_fields() + all_fields(3, 3):
            self.assertEqual(lanes(field), lanes_by_words(field))
            self.assertEqual(list(lanes(field)), sorted(set(lanes(field))))

    def test_kinds_and_the_same_again(self):
        for field in small_fields():
            self.assertIs(type(lanes(field)), tuple)
            self.assertTrue(is_plain(lanes(field)))
            self.assertEqual(lanes(field), lanes(field))


class OddCells(unittest.TestCase):
    def told(self, field, a, b, cells):
        self.assertEqual(odd_cells(field, a, b), cells)

    def test_one_cell(self):
        self.told(((0, 0),), (0, 0), (0, 0), ())

    def test_two_cells(self):
        two = ((0, 0), (0, 1))
        self.told(two, (0, 0), (0, 1), ())
        self.told(two, (0, 1), (0, 0), ())
        self.told(two, (0, 0), (0, 0), two)
        self.told(two, (0, 1), (0, 1), two)

    def test_a_row(self):
        row = rectangle(1, 5)
        self.told(row, (0, 0), (0, 4), ())
        self.told(row, (0, 4), (0, 0), ())
        self.told(row, (0, 2), (0, 2), ((0, 0), (0, 4)))
        self.told(row, (0, 0), (0, 2), ((0, 2), (0, 4)))
        self.told(row, (0, 1), (0, 3), ((0, 0), (0, 1), (0, 3), (0, 4)))

    def test_a_ring(self):
        for a in RING:
            for b in RING:
                self.told(RING, a, b, () if a == b else tuple(sorted((a, b))))

    def test_a_square(self):
        square = rectangle(3, 3)
        sides = ((0, 1), (1, 0), (1, 2), (2, 1))
        self.told(square, (1, 1), (1, 1), sides)
        self.told(square, (0, 1), (0, 1), sides)
        self.told(square, (0, 1), (1, 0), ((1, 2), (2, 1)))
        self.told(square, (0, 1), (1, 1), ((1, 0), (1, 1), (1, 2), (2, 1)))
        self.told(square, (0, 0), (2, 2), ((0, 0), (0, 1), (1, 0), (1, 2), (2, 1), (2, 2)))

    def test_combs(self):
        for teeth in range(1, 9):
            field = comb(teeth)
            self.assertEqual(len(odd_cells(field, (0, 0), (0, 0))), 2 * teeth + 2)
            self.assertEqual(len(odd_cells(field, (0, 0), (0, 2 * teeth))), 2 * teeth)

    def test_all_small_fields_and_all_pairs(self):
        for field in all_fields(3, 3) + all_fields(2, 4):
            for a, b in all_pairs(field):
                self.told(field, a, b, odd_by_words(field, a, b))

    def test_larger_fields(self):
        for field in drawn_fields() + [HOLES]:
            for a, b in pairs_of_cells(field, 6):
                self.told(field, a, b, odd_by_words(field, a, b))
                self.told(field, b, a, odd_by_words(field, a, b))

    def test_kinds_and_the_same_again(self):
        for field in small_fields():
            for a, b in pairs_of_cells(field, 6):
                told = odd_cells(field, a, b)
                self.assertTrue(type(told) is tuple and is_plain(told))
                self.assertEqual(list(told), sorted(set(told)))
                self.assertEqual(odd_cells(field, a, b), told)
