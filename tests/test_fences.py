import unittest

from mowfloor.again import again
from mowfloor.fences import fences
from tests.samples import (
    RING, all_fields, all_pairs, are_fences_by_words, drawn_fields, drawn_text, is_plain, odd_by_words, pairs_of_cells,
    rectangle, small_fields,
)


class Fences(unittest.TestCase):
    def right(self, field, a, b):
        told = fences(field, a, b)
        self.assertTrue(type(told) is tuple and is_plain(told))
        self.assertEqual(len(told), len(again(field, a, b)))
        self.assertTrue(are_fences_by_words(field, a, b, told))
        return told

    def test_where_none_is_gone_twice(self):
        self.assertEqual(fences(((0, 0),), (0, 0), (0, 0)), ())
        self.assertEqual(fences(((0, 0), (0, 1)), (0, 0), (0, 1)), ())
        self.assertEqual(fences(RING, (0, 1), (0, 1)), ())
        self.assertEqual(fences(rectangle(2, 3), (0, 1), (1, 1)), ())

    def test_two_cells(self):
        two = ((0, 0), (0, 1))
        self.assertIn(self.right(two, (0, 0), (0, 0)), [(((0, 0),),), (((0, 1),),)])

    def test_a_row_has_a_fence_for_each_lane_gone_twice(self):
        row = rectangle(1, 5)
        self.assertEqual(len(self.right(row, (0, 2), (0, 2))), 4)
        self.assertEqual(len(self.right(row, (0, 0), (0, 2))), 2)
        self.assertEqual(len(self.right(row, (0, 1), (0, 3))), 2)
        self.assertEqual(len(self.right(rectangle(1, 31), (0, 15), (0, 15))), 30)

    def test_fences_within_fences(self):
        field = drawn_text("""
        .....
        .###.
        .....
        """)
        self.assertEqual(len(self.right(field, (1, 0), (1, 4))), 6)

    def test_all_small_fields_and_all_pairs(self):
        for field in all_fields(3, 3) + all_fields(2, 4):
            for a, b in all_pairs(field):
                self.right(field, a, b)

    def test_named_and_larger_fields(self):
        for field in small_fields() + drawn_fields():
            for a, b in pairs_of_cells(field, 6):
                if len(odd_by_words(field, a, b)) <= 14:
                    self.right(field, a, b)

    def test_the_same_is_told_again(self):
        for field in small_fields():
            for a, b in pairs_of_cells(field, 6):
                self.assertEqual(fences(field, a, b), fences(tuple(list(field)), a, b))
