import unittest
from collections import Counter

from mowfloor.again import again
from mowfloor.along import all_lanes, gone
from mowfloor.errors import TooMany
from mowfloor.fences import fences
from tests.samples import (
    COMB, HOLES, RING, all_fields, all_pairs, apart, are_fences_by_words, comb, drawn_fields, has_odd_at, is_plain,
    lanes_by_words, odd_by_words, pairs_of_cells, rectangle, small_fields, steps_by_words,
)


def fewest_steps(field, a):
    """For each cell, how few steps from a to it go along all lanes: all walks, each as soon as it is new."""
    places = {lane: place for place, lane in enumerate(lanes_by_words(field))}
    beside = {cell: [other for other in field if apart(cell, other) == 1] for cell in field}
    whole = (1 << len(places)) - 1
    seen = {(a, 0)}
    layer = [(a, 0)]
    found = {}
    many = 0
    while len(found) < len(field):
        for cell, done in layer:
            if done == whole:
                found.setdefault(cell, many)
        layer = {
            (other, done | 1 << places[tuple(sorted((cell, other)))]) for cell, done in layer for other in beside[cell]
        } - seen
        seen |= layer
        many += 1
    return found


class AllLanes(unittest.TestCase):
    def right(self, field, a, b):
        walk = all_lanes(field, a, b)
        self.assertTrue(type(walk) is tuple and is_plain(walk))
        self.assertEqual((walk[0], walk[-1]), (a, b))
        often = Counter(steps_by_words(field, walk))
        self.assertEqual(set(often), set(lanes_by_words(field)))
        self.assertLessEqual(set(often.values()), {1, 2})
        twice = [lane for lane in often if often[lane] == 2]
        self.assertTrue(has_odd_at(twice, odd_by_words(field, a, b)))
        self.assertEqual(len(twice), len(again(field, a, b)))
        self.assertEqual(len(walk) - 1, len(lanes_by_words(field)) + len(again(field, a, b)))
        return walk

    def test_where_there_is_one_choice_alone(self):
        self.assertEqual(all_lanes(((0, 0),), (0, 0), (0, 0)), ((0, 0),))
        self.assertEqual(all_lanes(((30, 30),), (30, 30), (30, 30)), ((30, 30),))
        self.assertEqual(all_lanes(((0, 0), (0, 1)), (0, 0), (0, 1)), ((0, 0), (0, 1)))
        self.assertEqual(all_lanes(((0, 0), (0, 1)), (0, 1), (0, 0)), ((0, 1), (0, 0)))
        self.assertEqual(all_lanes(((0, 0), (0, 1)), (0, 0), (0, 0)), ((0, 0), (0, 1), (0, 0)))
        self.assertEqual(all_lanes(((0, 0), (0, 1)), (0, 1), (0, 1)), ((0, 1), (0, 0), (0, 1)))
        row = rectangle(1, 4)
        self.assertEqual(all_lanes(row, (0, 0), (0, 3)), row)
        self.assertEqual(all_lanes(row, (0, 3), (0, 0)), tuple(reversed(row)))
        self.assertEqual(all_lanes(row, (0, 1), (0, 3)), ((0, 1), (0, 0), (0, 1), (0, 2), (0, 3)))
        self.assertEqual(all_lanes(row, (0, 0), (0, 0)), row + tuple(reversed(row[:3])))

    def test_how_many_steps(self):
        self.assertEqual(len(self.right(RING, (0, 1), (0, 1))), 9)
        self.assertEqual(len(self.right(RING, (0, 1), (2, 1))), 13)
        self.assertEqual(len(self.right(rectangle(2, 3), (0, 1), (1, 1))), 8)
        self.assertEqual(len(self.right(rectangle(3, 3), (1, 1), (1, 1))), 17)
        self.assertEqual(len(self.right(rectangle(5, 5), (0, 0), (0, 0))), 49)

    def test_all_small_fields_and_all_pairs(self):
        for field in all_fields(3, 3) + all_fields(2, 4):
            for a, b in all_pairs(field):
                self.right(field, a, b)

    def test_named_and_larger_fields(self):
        many = 0
        for field in small_fields() + drawn_fields() + [rectangle(5, 5), rectangle(2, 9), comb(6)]:
            for a, b in pairs_of_cells(field, 8):
                if len(odd_by_words(field, a, b)) <= 14:
                    many += 1
                    walk = self.right(field, a, b)
                    shown = fences(field, a, b)
                    self.assertTrue(are_fences_by_words(field, a, b, shown))
                    self.assertEqual(len(walk) - 1 - len(lanes_by_words(field)), len(shown))
        self.assertGreater(many, 200)

    def test_no_walk_has_fewer_steps(self):
        for field in all_fields(2, 4) + all_fields(3, 3)[::5] + [RING, COMB[:9], rectangle(3, 3)[:8]]:
            for a in field[::3]:
                fewest = fewest_steps(field, a)
                for b in field:
                    self.assertEqual(len(all_lanes(field, a, b)) - 1, fewest[b])

    def test_a_whole_square_by_all_walks(self):
        field = rectangle(3, 3)
        fewest = fewest_steps(field, (0, 1))
        for b in field:
            self.assertEqual(len(all_lanes(field, (0, 1), b)) - 1, fewest[b])

    def test_refused_as_again(self):
        for field, a, b in [
            (comb(7), (0, 0), (0, 0)), (comb(6), (0, 2), (0, 4)), (rectangle(6, 6), (0, 0), (5, 5)), (comb(12), (0, 0), (1, 1)),
        ]:
            self.assertGreater(len(odd_by_words(field, a, b)), 14)
            with self.assertRaises(TooMany) as caught:
                all_lanes(field, a, b)
            self.assertIs(type(caught.exception), TooMany)
        for field, a, b in [(comb(6), (0, 0), (0, 0)), (comb(7), (0, 0), (0, 14))]:
            self.assertEqual(len(odd_by_words(field, a, b)), 14)
            self.right(field, a, b)

    def test_the_same_is_told_again(self):
        for field in small_fields():
            for a, b in pairs_of_cells(field, 6):
                self.assertEqual(all_lanes(field, a, b), all_lanes(tuple(list(field)), a, b))


class Gone(unittest.TestCase):
    def told(self, walk, some):
        self.assertEqual(gone(walk), some)

    def test_one_cell(self):
        self.told(((0, 0),), ())
        self.told(((30, 30),), ())

    def test_one_step_either_way(self):
        self.told(((0, 0), (0, 1)), ((((0, 0), (0, 1)), 1),))
        self.told(((0, 1), (0, 0)), ((((0, 0), (0, 1)), 1),))
        self.told(((5, 3), (4, 3)), ((((4, 3), (5, 3)), 1),))

    def test_to_and_fro(self):
        self.told(((0, 0), (0, 1), (0, 0)), ((((0, 0), (0, 1)), 2),))
        self.told(((0, 0), (0, 1)) * 6, ((((0, 0), (0, 1)), 11),))
        self.told(
            ((0, 2), (0, 1), (0, 0), (0, 1), (0, 2), (0, 1)),
            ((((0, 0), (0, 1)), 2), (((0, 1), (0, 2)), 3)),
        )

    def test_a_round(self):
        self.told(
            ((1, 1), (1, 0), (0, 0), (0, 1), (1, 1), (1, 0)),
            ((((0, 0), (0, 1)), 1), (((0, 0), (1, 0)), 1), (((0, 1), (1, 1)), 1), (((1, 0), (1, 1)), 2)),
        )

    def test_only_the_lanes_that_it_goes_along(self):
        self.told(HOLES[:3], ((((0, 0), (0, 1)), 1), (((0, 1), (0, 2)), 1)))

    def test_of_walks_along_all_lanes(self):
        for field in small_fields() + drawn_fields():
            for a, b in pairs_of_cells(field, 4):
                if len(odd_by_words(field, a, b)) <= 14:
                    walk = all_lanes(field, a, b)
                    often = Counter(steps_by_words(field, walk))
                    self.told(walk, tuple(sorted(often.items())))
                    self.assertTrue(is_plain(gone(walk)))
                    self.assertEqual(gone(walk), gone(tuple(reversed(walk))))
                    self.assertEqual(sum(many for lane, many in gone(walk)), len(walk) - 1)
