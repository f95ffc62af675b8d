import unittest

from mowfloor.errors import NoText
from mowfloor.texts import read_floor, show_floor
from tests.samples import all_floors, drawn_floors, junk, rectangle


class ShowFloor(unittest.TestCase):
    def test_told(self):
        self.assertEqual(show_floor(()), "#")
        self.assertEqual(show_floor(((0, 0),)), ".")
        self.assertEqual(show_floor(((0, 0), (0, 2), (1, 1))), ".#.\n#.#")
        self.assertEqual(show_floor(rectangle(2, 3)), "...\n...")

    def test_beginning_far_down_and_to_the_right(self):
        self.assertEqual(show_floor(((2, 3),)), "####\n####\n###.")
        self.assertEqual(show_floor(((0, 4), (2, 0))), "####.\n#####\n.####")
        self.assertEqual(show_floor(((30, 30),)), "\n".join(["#" * 31] * 30 + ["#" * 30 + "."]))

    def test_the_last_row_and_the_greatest_column_end_it(self):
        self.assertEqual(show_floor(((0, 1), (1, 0))), "#.\n.#")
        self.assertEqual(show_floor(((5, 0),)), "#\n#\n#\n#\n#\n.")
        self.assertEqual(show_floor(((0, 5),)), "#####.")

    def test_what_is_no_floor_is_refused(self):
        for thing in junk() + [((0, 31),), ((31, 0),)]:
            with self.assertRaises(NoText):
                show_floor(thing)


class ReadFloor(unittest.TestCase):
    def refused(self, thing):
        with self.assertRaises(NoText):
            read_floor(thing)

    def test_told(self):
        self.assertEqual(read_floor("#"), ())
        self.assertEqual(read_floor("."), ((0, 0),))
        self.assertEqual(read_floor("#.\n.#"), ((0, 1), (1, 0)))

    def test_rows_of_unlike_lengths(self):
        self.assertEqual(read_floor(".\n#.."), ((0, 0), (1, 1), (1, 2)))
        self.assertEqual(read_floor("...\n."), ((0, 0), (0, 1), (0, 2), (1, 0)))
        self.assertEqual(read_floor("#####\n.\n##."), ((1, 0), (2, 2)))

    def test_further_taken_signs(self):
        self.assertEqual(read_floor(".###\n#\n####"), ((0, 0),))
        self.assertEqual(read_floor("#\n###\n#"), ())
        self.assertEqual(read_floor("###"), ())

    def test_the_greatest(self):
        self.assertEqual(read_floor("\n".join(["." * 31] * 31)), rectangle(31, 31))
        self.assertEqual(read_floor("." * 31), rectangle(1, 31))
        self.assertEqual(read_floor("\n".join(["."] * 31)), rectangle(31, 1))
        self.assertEqual(read_floor("#" * 31), ())

    def test_one_row_or_one_sign_too_many(self):
        self.refused("\n".join(["."] * 32))
        self.refused("\n".join(["#"] * 32))
        self.refused("." * 32)
        self.refused("#" * 32)
        self.refused("." + "#" * 31)
        self.refused(".\n" + "#" * 32 + "\n.")
        self.refused("#\n" * 30 + "#" * 32)

    def test_empty_texts_and_rows(self):
        for text in ["", "\n", "\n.", ".\n", ".\n\n.", "\n\n", ".\n.\n"]:
            self.refused(text)

    def test_other_signs(self):
        for text in [
            " ", ". ", " .", "x", ".x.", "..\r\n..", "..\r..", ".\t", "./#", ".\n#o", "0", ":", "\u2024", "\uff0e",
            ".\u2028.", ".\x0b.", ".\x0c.", ".\x1c.", ".\x85.", "\ud800", "\x00", "#-",
        ]:
            self.refused(text)

    def test_things_that_are_no_text(self):
        for thing in junk() + [b".", [".", "#"], (".",), ["."], {".": "."}, ((0, 0),), ()]:
            self.refused(thing)


class ThereAndBack(unittest.TestCase):
    def test_what_is_shown_is_read_as_it_was(self):
        for floor in all_floors(3, 3) + drawn_floors() + [rectangle(31, 31), ((30, 30),), ((0, 30), (30, 0)), ()]:
            self.assertEqual(read_floor(show_floor(floor)), floor)
            self.assertIs(type(show_floor(floor)), str)

    def test_what_is_read_is_shown_without_further_signs(self):
        self.assertEqual(show_floor(read_floor(".###\n#.#\n##\n####")), ".#\n#.")

    def test_asked_again_the_same_is_told(self):
        for floor in drawn_floors()[:10]:
            self.assertEqual(show_floor(floor), show_floor(floor))
            self.assertEqual(read_floor(show_floor(floor)), read_floor(show_floor(floor)))
