import unittest

from mowfloor.again import again
from mowfloor.errors import MowError, TooMany
from mowfloor.fences import fences
from tests.samples import (
    COMB, HOLES, RING, all_fields, all_pairs, are_fences_by_words, comb, drawn_fields, has_odd_at, is_plain,
    lanes_by_words, odd_by_words, pairs_of_cells, rectangle, small_fields,
)


def least_by_all_sets(field):
    """For each set of cells that have an odd number, how few lanes do it: all sets of lanes tried."""
    found = {frozenset(): 0}
    for lane in lanes_by_words(field):
        longer = {cells ^ frozenset(lane): many + 1 for cells, many in found.items()}
        for cells, many in longer.items():
            found[cells] = min(many, found.get(cells, many))
    return found


class Again(unittest.TestCase):
    def right(self, field, a, b):
        told = again(field, a, b)
        self.assertTrue(type(told) is tuple and is_plain(told))
        self.assertEqual(list(told), sorted(set(told)))
        self.assertLessEqual(set(told), set(lanes_by_words(field)))
        self.assertTrue(has_odd_at(told, odd_by_words(field, a, b)))
        return told

    def test_where_none_is_gone_twice(self):
        self.assertEqual(again(((0, 0),), (0, 0), (0, 0)), ())
        self.assertEqual(again(((0, 0), (0, 1)), (0, 0), (0, 1)), ())
        self.assertEqual(again(rectangle(1, 31), (0, 30), (0, 0)), ())
        self.assertEqual(again(RING, (0, 1), (0, 1)), ())
        self.assertEqual(again(rectangle(2, 2), (1, 1), (1, 1)), ())
        self.assertEqual(again(rectangle(2, 3), (0, 1), (1, 1)), ())

    def test_where_there_is_one_choice_alone(self):
        two = ((0, 0), (0, 1))
        self.assertEqual(again(two, (0, 0), (0, 0)), (two,))
        row = rectangle(1, 5)
        self.assertEqual(again(row, (0, 2), (0, 2)), lanes_by_words(row))
        self.assertEqual(again(row, (0, 0), (0, 2)), (((0, 2), (0, 3)), ((0, 3), (0, 4))))
        self.assertEqual(again(row, (0, 1), (0, 3)), (((0, 0), (0, 1)), ((0, 3), (0, 4))))
        self.assertEqual(again(row, (0, 3), (0, 1)), (((0, 0), (0, 1)), ((0, 3), (0, 4))))
        self.assertEqual(again(rectangle(2, 3), (0, 0), (0, 0)), (((0, 1), (1, 1)),))
        self.assertEqual(again(RING, (0, 0), (0, 2)), (((0, 0), (0, 1)), ((0, 1), (0, 2))))

    def test_the_nearest_two_first_would_be_too_many(self):
        row = rectangle(1, 8)
        self.assertEqual(again(row, (0, 3), (0, 4)), tuple(lane for lane in lanes_by_words(row) if lane[0] != (0, 3)))

    def test_all_sets_tried_on_all_small_fields(self):
        for field in all_fields(3, 3) + all_fields(2, 4):
            least = least_by_all_sets(field)
            for a, b in all_pairs(field):
                self.assertEqual(len(again(field, a, b)), least[frozenset(odd_by_words(field, a, b))])

    def test_each_odd_cell_has_an_odd_number_on_all_small_fields(self):
        for field in all_fields(3, 3):
            for a, b in all_pairs(field):
                self.right(field, a, b)

    def test_all_sets_tried_on_the_named_fields(self):
        for field in small_fields():
            least = least_by_all_sets(field) if len(field) < 15 else None
            for a, b in pairs_of_cells(field, 12):
                told = self.right(field, a, b)
                if least is not None:
                    self.assertEqual(len(told), least[frozenset(odd_by_words(field, a, b))])

    def test_fences_show_it_on_larger_fields(self):
        many = 0
        for field in drawn_fields() + [HOLES, COMB, rectangle(2, 31), comb(6)]:
            for a, b in pairs_of_cells(field, 6):
                if len(odd_by_words(field, a, b)) <= 14:
                    many += 1
                    told = self.right(field, a, b)
                    shown = fences(field, a, b)
                    self.assertEqual(len(shown), len(told))
                    self.assertTrue(are_fences_by_words(field, a, b, shown))
        self.assertGreater(many, 100)

    def test_the_same_is_told_again_and_from_b_to_a_as_many(self):
        for field in small_fields():
            for a, b in pairs_of_cells(field, 6):
                self.assertEqual(again(field, a, b), again(field, a, b))
                self.assertEqual(again(tuple(list(field)), a, b), again(field, a, b))
                self.assertEqual(len(again(field, b, a)), len(again(field, a, b)))


class TooManyOdd(unittest.TestCase):
    def refused(self, field, a, b):
        for told in (again, fences):
            with self.assertRaises(TooMany) as caught:
                told(field, a, b)
            self.assertIs(type(caught.exception), TooMany)
            self.assertIsInstance(caught.exception, MowError)

    def taken(self, field, a, b):
        self.assertEqual(len(again(field, a, b)), len(fences(field, a, b)))

    def test_combs(self):
        for teeth in range(1, 13):
            field = comb(teeth)
            for a, b in [((0, 0), (0, 0)), ((0, 0), (0, 2 * teeth)), ((1, 1), (0, 1)), ((0, 0), (0, 2))]:
                if len(odd_by_words(field, a, b)) > 14:
                    self.refused(field, a, b)
                else:
                    self.taken(field, a, b)

    def test_just_14_and_just_16(self):
        six = comb(6)
        seven = comb(7)
        self.assertEqual(len(odd_by_words(six, (0, 0), (0, 0))), 14)
        self.taken(six, (0, 0), (0, 0))
        self.assertEqual(len(odd_by_words(six, (0, 2), (0, 4))), 16)
        self.refused(six, (0, 2), (0, 4))
        self.assertEqual(len(odd_by_words(seven, (0, 0), (0, 14))), 14)
        self.taken(seven, (0, 0), (0, 14))
        self.assertEqual(len(odd_by_words(seven, (0, 0), (0, 0))), 16)
        self.refused(seven, (0, 0), (0, 0))

    def test_large_fields(self):
        self.refused(rectangle(14, 14), (0, 0), (13, 13))
        self.refused(rectangle(6, 6), (0, 0), (0, 0))
        self.taken(rectangle(5, 5), (0, 0), (4, 4))
        self.taken(rectangle(1, 31), (0, 3), (0, 20))

    def test_200_cells_with_14_odd_ones(self):
        field = tuple(sorted(rectangle(1, 31) + tuple(
            (row, column) for column in (2, 6, 10, 14, 18, 22) for row in range(1, 29)
        )))
        self.assertEqual(len(field), 199)
        self.assertEqual(len(odd_by_words(field, (0, 0), (0, 0))), 14)
        self.taken(field, (0, 0), (0, 0))
        self.taken(field, (0, 0), (28, 22))
        self.refused(field, (0, 1), (0, 3))
