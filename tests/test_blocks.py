import unittest

from mowfloor.blocks import blocks
from mowfloor.errors import MowError, NoBlocks
from tests.samples import (
    RING, all_fields, apart, block_fields, comb, drawn_block_fields, drawn_fields, drawn_text, is_plain, of_blocks,
    rectangle,
)


def blocks_by_words(field):
    """The least cells of the blocks into which the field is cut, by a try at all four ways to lay them; else None."""
    for top in (0, 1):
        for left in (0, 1):
            some = [cell for cell in field if (cell[0] % 2, cell[1] % 2) == (top, left)]
            held = sorted((row + below, column + aside) for row, column in some for below in (0, 1) for aside in (0, 1))
            if held == list(field):
                return tuple(some)
    return None


class Blocks(unittest.TestCase):
    def refused(self, field):
        with self.assertRaises(NoBlocks) as caught:
            blocks(field)
        self.assertIs(type(caught.exception), NoBlocks)
        self.assertIsInstance(caught.exception, MowError)

    def test_some(self):
        self.assertEqual(blocks(rectangle(2, 2)), ((0, 0),))
        self.assertEqual(blocks(rectangle(2, 2, 29, 29)), ((29, 29),))
        self.assertEqual(blocks(rectangle(2, 4)), ((0, 0), (0, 2)))
        self.assertEqual(blocks(rectangle(4, 2, 1, 2)), ((1, 2), (3, 2)))
        self.assertEqual(blocks(rectangle(4, 4, 2, 1)), ((2, 1), (2, 3), (4, 1), (4, 3)))
        self.assertEqual(
            blocks(of_blocks(RING, 3, 3)), ((3, 3), (3, 5), (3, 7), (5, 3), (5, 7), (7, 3), (7, 5), (7, 7)),
        )
        field = drawn_text("##..\n##..\n....\n....\n")
        self.assertEqual(blocks(field), ((0, 2), (2, 0), (2, 2)))

    def test_where_the_least_cell_is_not_the_leftmost(self):
        field = drawn_text("####..\n####..\n......\n......\n..####\n..####\n")
        self.assertEqual(blocks(field), ((0, 4), (2, 0), (2, 2), (2, 4), (4, 0)))

    def test_rows_squares_rings_combs_moved(self):
        for field, some in block_fields() + drawn_block_fields():
            self.assertEqual(blocks(field), some)
            self.assertTrue(is_plain(blocks(field)))
            self.assertEqual(blocks(field), blocks(tuple(list(field))))

    def test_all_of_900_cells(self):
        self.assertEqual(len(blocks(rectangle(30, 30))), 225)
        self.assertEqual(blocks(rectangle(30, 30, 1, 1))[-1], (29, 29))

    def test_what_cannot_be_cut(self):
        for field in [
            ((0, 0),), ((30, 30),), rectangle(1, 2), rectangle(1, 4), rectangle(4, 1), rectangle(3, 3), rectangle(3, 4),
            rectangle(2, 3), rectangle(3, 2), rectangle(2, 5), rectangle(6, 6)[:-1], rectangle(6, 6)[1:], RING, comb(3),
            drawn_text("...\n..#\n"), drawn_text("..\n..\n.#\n"), drawn_text(".##\n...\n#..\n"),
            drawn_text("#..\n...\n"),
        ]:
            self.refused(field)

    def test_two_blocks_that_hang_together_one_row_or_one_column_aside(self):
        for text in ["..##\n....\n##..\n", "##..\n....\n..##\n", "..#\n..#\n#..\n#..\n", "#..\n#..\n..#\n..#\n"]:
            field = drawn_text(text)
            self.assertEqual(len(field), 8)
            self.refused(field)
        self.assertEqual(blocks(drawn_text("..\n..\n..\n..\n")), ((0, 0), (2, 0)))

    def test_blocks_that_lie_aside_further_off(self):
        self.refused(drawn_text("..####\n......\n##....\n####..\n"))
        self.refused(drawn_text("....##\n....##\n###..#\n###..#\n"))
        self.refused(drawn_text("..###\n..###\n..#..\n.....\n##...\n"))

    def test_a_cell_moved(self):
        for field, some in drawn_block_fields()[::4]:
            for cell in field[::3]:
                rest = tuple(other for other in field if other != cell)
                self.refused(rest)
                for row, column in field[::7]:
                    for more in [(row + 1, column), (row, column + 1)]:
                        if more not in field:
                            self.refused(tuple(sorted(rest + (more,))))

    def test_all_small_fields(self):
        told = []
        for field in all_fields(4, 4)[::5] + all_fields(2, 6) + all_fields(3, 4) + drawn_fields():
            wanted = blocks_by_words(field)
            told.append(wanted)
            if wanted is None:
                self.refused(field)
            else:
                self.assertEqual(blocks(field), wanted)
        self.assertGreater(len(set(told)), 5)
