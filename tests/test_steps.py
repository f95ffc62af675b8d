import itertools
import unittest

from mowfloor.steps import fewest_pairs, steps_from, steps_from_each, without
from tests.samples import HOLES, RING, apart, comb, rectangle, small_fields


def all_pairings(cells):
    if not cells:
        yield ()
        return
    for place in range(1, len(cells)):
        for rest in all_pairings(cells[1:place] + cells[place + 1:]):
            yield ((cells[0], cells[place]),) + rest


class StepsFrom(unittest.TestCase):
    def test_on_a_rectangle_as_far_as_they_are_apart(self):
        field = rectangle(4, 5)
        for start in field:
            self.assertEqual(steps_from(field, start), {cell: apart(cell, start) for cell in field})

    def test_round_a_hole(self):
        self.assertEqual(steps_from(RING, (1, 0))[(1, 2)], 4)

    def test_one_step_fewer_from_a_neighbour(self):
        for field in small_fields():
            for start in (field[0], field[-1]):
                steps = steps_from(field, start)
                self.assertEqual(set(steps), set(field))
                for cell in field:
                    beside = [steps[other] for other in field if apart(cell, other) == 1]
                    self.assertEqual(steps[cell], 0 if cell == start else min(beside) + 1)


class FewestPairs(unittest.TestCase):
    def test_by_all_pairings(self):
        for field in (HOLES, rectangle(3, 4), comb(3)):
            away = steps_from_each(field, field)
            for many in (0, 2, 4, 6):
                for cells in list(itertools.combinations(field, many))[::37]:
                    steps, pairs = fewest_pairs(away, cells, {})
                    every = [sum(away[one][other] for one, other in found) for found in all_pairings(cells)]
                    self.assertEqual(steps, min(every))
                    self.assertEqual(steps, sum(away[one][other] for one, other in pairs))
                    self.assertEqual(sorted(cell for pair in pairs for cell in pair), list(cells))

    def test_without(self):
        self.assertEqual(without((1, 2, 3, 4), 1, 3), (2, 4))
        self.assertEqual(without((1, 2), 1, 2), ())
