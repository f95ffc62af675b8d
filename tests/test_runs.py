import unittest

from mowfloor.runs import runs
from tests.samples import all_floors, drawn_floors, drawn_text, held, is_plain, rectangle


class Runs(unittest.TestCase):
    def test_no_cells(self):
        self.assertEqual(runs(()), ())

    def test_one_cell_is_a_run_of_each_word(self):
        for cell in [(0, 0), (30, 30), (0, 30), (7, 3)]:
            self.assertEqual(runs((cell,)), (("down", cell, 1), ("right", cell, 1)))

    def test_whole_rectangles(self):
        for rows in range(1, 5):
            for columns in range(1, 5):
                wanted = [("down", (2, 3 + column), rows) for column in range(columns)]
                wanted += [("right", (2 + row, 3), columns) for row in range(rows)]
                self.assertEqual(runs(rectangle(rows, columns, 2, 3)), tuple(wanted))

    def test_gaps(self):
        self.assertEqual(runs(((0, 0), (0, 1), (0, 3))), (
            ("down", (0, 0), 1), ("down", (0, 1), 1), ("down", (0, 3), 1), ("right", (0, 0), 2), ("right", (0, 3), 1),
        ))
        self.assertEqual(runs(((0, 5), (2, 5), (3, 5))), (
            ("down", (0, 5), 1), ("down", (2, 5), 2), ("right", (0, 5), 1), ("right", (2, 5), 1), ("right", (3, 5), 1),
        ))
        self.assertEqual(runs(drawn_text("... .#. ...")), (
            ("down", (0, 0), 3), ("down", (0, 1), 1), ("down", (0, 2), 3), ("down", (2, 1), 1),
            ("right", (0, 0), 3), ("right", (1, 0), 1), ("right", (1, 2), 1), ("right", (2, 0), 3),
        ))

    def test_several_parts(self):
        self.assertEqual(runs(((0, 0), (1, 1), (1, 2))), (
            ("down", (0, 0), 1), ("down", (1, 1), 1), ("down", (1, 2), 1), ("right", (0, 0), 1), ("right", (1, 1), 2),
        ))

    def test_a_row_end_and_the_next_rows_begin_are_apart(self):
        self.assertEqual([run for run in runs(((0, 30), (1, 0))) if run[2] != 1], [])

    def test_the_longest(self):
        self.assertIn(("right", (4, 0), 31), runs(rectangle(1, 31, 4, 0)))
        self.assertEqual(len(runs(rectangle(1, 31))), 32)
        self.assertIn(("down", (0, 4), 31), runs(rectangle(31, 1, 0, 4)))
        self.assertEqual(len(runs(rectangle(31, 1))), 32)
        self.assertEqual({run[2] for run in runs(rectangle(31, 31))}, {31})
        self.assertEqual(len(runs(rectangle(31, 31))), 62)

    def test_each_cell_is_in_just_one_of_each_word_and_none_can_be_longer(self):
        for floor in drawn_floors() + all_floors(3, 3):
            told = runs(floor)
            self.assertTrue(is_plain(told))
            self.assertEqual(tuple(sorted(set(told))), told)
            for word in ("down", "right"):
                cells = [cell for run in told if run[0] == word for cell in held(run)]
                self.assertEqual(sorted(cells), list(floor))
            for word, (row, column), many in told:
                self.assertIn(word, ("down", "right"))
                ends = [(row - 1, column), (row + many, column)]
                if word == "right":
                    ends = [(row, column - 1), (row, column + many)]
                self.assertEqual([end for end in ends if end in floor], [])

    def test_asked_again_the_same_is_told(self):
        for floor in drawn_floors()[:20]:
            self.assertEqual(runs(floor), runs(tuple(list(floor))))
