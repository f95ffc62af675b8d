import unittest
from collections import Counter

from mowfloor.strokes import strokes
from tests.samples import (
    RING, all_fields, apart, comb, drawn_fields, is_plain, lanes_by_words, odd_by_words, rectangle, small_fields,
    steps_by_words,
)


def all_strokes(field):
    """Each set of lanes, as bits, that some walk goes along, each just once."""
    places = {lane: place for place, lane in enumerate(lanes_by_words(field))}
    found = set()
    waiting = [(cell, 0) for cell in field]
    while waiting:
        cell, done = waiting.pop()
        for other in field:
            if apart(cell, other) == 1:
                bit = 1 << places[tuple(sorted((cell, other)))]
                if not done & bit and (other, done | bit) not in found:
                    found.add((other, done | bit))
                    waiting.append((other, done | bit))
    return {done for cell, done in found}


def fewest_by_all_parts(field):
    """How few sets of these fall apart and make up all lanes."""
    every = sorted(all_strokes(field))
    fewest = {0: 0}
    for whole in range(1, 1 << len(lanes_by_words(field))):
        first = whole & -whole
        fewest[whole] = min(
            fewest[whole - part] + 1 for part in every if part & first and part & whole == part
        )
    return fewest[max(fewest)]


class Strokes(unittest.TestCase):
    def right(self, field):
        told = strokes(field)
        self.assertTrue(type(told) is tuple and is_plain(told))
        often = Counter(lane for walk in told for lane in steps_by_words(field, walk))
        self.assertEqual(set(often), set(lanes_by_words(field)))
        self.assertLessEqual(set(often.values()), {1})
        self.assertTrue(all(len(walk) > 1 for walk in told))
        odd = odd_by_words(field, field[0], field[0])
        wanted = len(odd) // 2
        if not odd:
            wanted = 1 if lanes_by_words(field) else 0
        self.assertEqual(len(told), wanted)
        return told

    def test_without_lanes(self):
        self.assertEqual(strokes(((0, 0),)), ())
        self.assertEqual(strokes(((30, 30),)), ())

    def test_two_cells_and_a_row(self):
        self.assertIn(self.right(((0, 0), (0, 1))), [(((0, 0), (0, 1)),), (((0, 1), (0, 0)),)])
        row = rectangle(1, 31)
        self.assertIn(self.right(row), [(row,), (tuple(reversed(row)),)])

    def test_one_round_walk(self):
        two_rings = tuple(sorted(set(RING) | {(row + 2, column + 2) for row, column in RING}))
        for field in (RING, rectangle(2, 2), two_rings):
            told = self.right(field)
            self.assertEqual(len(told), 1)
            self.assertEqual(told[0][0], told[0][-1])

    def test_how_many(self):
        self.assertEqual(len(strokes(rectangle(2, 3))), 1)
        self.assertEqual(len(strokes(rectangle(3, 3))), 2)
        self.assertEqual(len(strokes(rectangle(14, 14))), 24)
        for teeth in range(1, 16):
            self.assertEqual(len(self.right(comb(teeth))), teeth + 1)

    def test_a_cross(self):
        self.assertEqual(len(self.right(((0, 1), (1, 0), (1, 1), (1, 2), (2, 1)))), 2)

    def test_all_small_fields(self):
        for field in all_fields(3, 3) + all_fields(2, 5):
            self.right(field)

    def test_named_and_larger_fields(self):
        for field in small_fields() + drawn_fields() + [rectangle(14, 14)]:
            self.right(field)

    def test_no_fewer_walks_do_it(self):
        for field in all_fields(2, 3) + [field for field in all_fields(3, 3)[::4] if len(lanes_by_words(field)) < 8]:
            self.assertEqual(len(strokes(field)), fewest_by_all_parts(field))

    def test_the_same_is_told_again(self):
        for field in small_fields():
            self.assertEqual(strokes(field), strokes(tuple(list(field))))
