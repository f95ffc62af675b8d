import random
import unittest

from mowfloor.again import again
from mowfloor.along import all_lanes
from mowfloor.bars import barred
from mowfloor.desk import Desk
from mowfloor.errors import Here, MowError, Near, NoBlock, NoBlocks, NoField, NoFit, NoText, TooMany
from mowfloor.fewest import fewest_runs
from mowfloor.going import Going
from mowfloor.places import mown, places
from mowfloor.rings import ring, ring_turns
from mowfloor.strokes import strokes
from mowfloor.texts import show_floor
from mowfloor.times import least_time
from mowfloor.trees import some_tree
from tests.samples import (
    COMB, HOLES, block_fields, comb, drawn, drawn_block_fields, drawn_floors, drawn_text, junk, of_blocks, rectangle,
)

# Each kind of row, with cells of FLOOR behind it.
FLOOR = "floor ....../......"
ROWS = [
    FLOOR, "mower 1 0:0", "cells", "runs", "places", "mown", "strokes", "bars 0:0 1:5", "twice 0:0 1:5", "walk 0:0 1:5",
    "round 0:0", "step", "thing 0:2", "goes 0:2", "left", "lost", "turns", "time 0:0", "time 0:0 0:1 1:5",
]
OF_FLOOR = ["mower 1 0:0", "cells", "runs"]
OF_FIELD = ["places", "mown", "strokes", "bars 0:0 1:5", "twice 0:0 1:5", "walk 0:0 1:5", "round 0:0"]
OF_ROUND = ["step", "thing 0:2", "goes 0:2", "left", "lost", "turns", "time 0:0", "time 0:0 0:1 1:5"]


def row_of(floor):
    return "floor " + show_floor(floor).replace("\n", "/")


def cell_text(cell):
    return f"{cell[0]}:{cell[1]}"


def cells_text(cells):
    return " ".join(cell_text(cell) for cell in cells) or "-"


class Told(unittest.TestCase):
    def desk(self, *rows):
        desk = Desk()
        for row in rows:
            self.assertEqual(desk.say(row), "done")
        return desk

    def says(self, desk, row, wanted):
        told = desk.say(row)
        self.assertIs(type(told), str)
        self.assertEqual(told, wanted)

    def refused(self, desk, row, error):
        with self.assertRaises(error) as caught:
            desk.say(row)
        self.assertIs(type(caught.exception), error)
        self.assertIsInstance(caught.exception, MowError)


class Floors(Told):
    def test_floors(self):
        for floor in drawn_floors() + [(), ((0, 0),), ((30, 30),), HOLES, COMB]:
            desk = self.desk(row_of(floor))
            self.says(desk, "cells", str(len(floor)))
            self.says(desk, "runs", str(len(fewest_runs(floor)[0])))

    def test_rows_of_unlike_lengths_and_further_signs(self):
        desk = self.desk("floor ..##/#/.../##")
        self.says(desk, "cells", "5")
        self.says(desk, "runs", "2")
        self.says(self.desk("floor #"), "cells", "0")
        self.says(self.desk("floor #"), "runs", "0")
        self.says(self.desk("floor ."), "cells", "1")
        self.says(self.desk("floor " + "/".join(["." * 31] * 31)), "cells", "961")
        self.says(self.desk("floor " + "/".join(["#" * 31] * 31)), "cells", "0")

    def test_texts_that_are_none(self):
        for text in [
            "", "/", "./", "/.", ".//.", "x", ".x", ".\n.", "\n", ".\n", "\n.", "./.\n.", ". .", ". ", " .", ",", ".\t",
            ".\\.", "./ .",
            "." * 32, "/".join(["."] * 32), "/".join(["." * 31] * 30 + ["." * 32]), "\u2024", "\uff0e",
        ]:
            desk = self.desk(FLOOR, "mower 1 0:0", "round 0:0")
            self.refused(desk, "floor " + text, NoText)
            self.says(desk, "cells", "12")
            self.says(desk, "places", "12")
            self.says(desk, "left", "11")
            self.refused(Desk(), "floor " + text, NoText)

    def test_a_floor_ends_field_and_round(self):
        desk = self.desk(FLOOR, "mower 1 0:0", "round 0:0", FLOOR)
        self.says(desk, "cells", "12")
        for row in OF_FIELD + OF_ROUND:
            self.refused(desk, row, NoField)
        self.says(desk, "mower 1 0:0", "done")
        for row in OF_ROUND:
            self.refused(desk, row, NoField)
        self.says(desk, "places", "12")


class Mowers(Told):
    def test_the_field_and_what_is_mown(self):
        for floor in drawn_floors():
            desk = self.desk(row_of(floor))
            for width in range(1, 7):
                for start in (floor + ((0, 0), (30, 30)))[::9]:
                    row = f"mower {width} {cell_text(start)}"
                    try:
                        field = places(floor, width, start)
                    except NoFit:
                        self.refused(desk, row, NoFit)
                        continue
                    self.says(desk, row, "done")
                    self.says(desk, "places", str(len(field)))
                    self.says(desk, "mown", str(len(mown(field, width))))
                    self.says(desk, "strokes", str(len(strokes(field))))
                    self.says(desk, "cells", str(len(floor)))

    def test_a_mower_of_each_width(self):
        desk = self.desk("floor " + "/".join(["......."] * 7))
        for width in range(1, 7):
            self.says(desk, f"mower {width} 0:0", "done")
            self.says(desk, "places", str((8 - width) ** 2))
            self.says(desk, "mown", "49")

    def test_a_start_where_it_does_not_fit_changes_nothing(self):
        desk = self.desk(FLOOR, "mower 1 0:1", "round 0:0")
        desk.say("step")
        for row in ["mower 1 2:0", "mower 1 30:30", "mower 2 1:0", "mower 2 0:5", "mower 3 0:0", "mower 6 0:0"]:
            self.refused(desk, row, NoFit)
            self.says(desk, "places", "12")
            self.says(desk, "mown", "12")
            self.says(desk, "left", "10")

    def test_a_mower_ends_a_round(self):
        desk = self.desk(FLOOR, "mower 1 0:0", "round 0:0", "mower 2 0:0")
        for row in OF_ROUND:
            self.refused(desk, row, NoField)
        self.says(desk, "places", "5")
        self.says(desk, "mown", "12")

    def test_on_no_cells(self):
        desk = self.desk("floor #")
        self.refused(desk, "mower 1 0:0", NoFit)
        self.refused(desk, "places", NoField)

    def test_one_part_alone(self):
        desk = self.desk("floor ..#../..#..", "mower 1 0:3")
        self.says(desk, "cells", "8")
        self.says(desk, "places", "4")
        self.says(desk, "bars 0:3 1:4", "0:4 1:3")
        self.refused(desk, "bars 0:0 1:1", NoText)
        self.refused(desk, "bars 0:3 1:1", NoText)
        self.refused(desk, "bars 0:1 1:3", NoText)


class Fields(Told):
    def test_bars_twice_and_walk(self):
        for seed in range(24):
            floor = drawn(500 + seed, 3 + seed % 4, 3 + seed % 5, 75)
            field = places(floor, 1, floor[len(floor) // 2])
            desk = self.desk(row_of(floor), f"mower 1 {cell_text(field[0])}")
            source = random.Random(seed)
            for _ in range(12):
                a, b = source.choice(field), source.choice(field)
                behind = f" {cell_text(a)} {cell_text(b)}"
                try:
                    self.says(desk, "bars" + behind, cells_text(barred(field, a, b)[0]))
                except Near:
                    self.assertLessEqual(abs(a[0] - b[0]) + abs(a[1] - b[1]), 1)
                try:
                    self.says(desk, "twice" + behind, str(len(again(field, a, b))))
                    self.says(desk, "walk" + behind, str(len(all_lanes(field, a, b)) - 1))
                except TooMany:
                    self.refused(desk, "walk" + behind, TooMany)

    def test_some(self):
        desk = self.desk("floor ...", "mower 1 0:0")
        self.says(desk, "bars 0:0 0:2", "0:1")
        self.says(desk, "bars 0:2 0:0", "0:1")
        self.says(desk, "twice 0:0 0:2", "0")
        self.says(desk, "walk 0:0 0:2", "2")
        self.says(desk, "twice 0:1 0:1", "2")
        self.says(desk, "walk 0:1 0:1", "4")
        self.says(desk, "strokes", "1")
        self.says(self.desk("floor .", "mower 1 0:0"), "strokes", "0")
        self.says(self.desk("floor .", "mower 1 0:0"), "walk 0:0 0:0", "0")

    def test_refused_as_told(self):
        desk = self.desk(FLOOR, "mower 1 0:0")
        self.refused(desk, "bars 0:0 0:0", Near)
        self.refused(desk, "bars 0:0 0:1", Near)
        self.refused(desk, "bars 1:0 0:0", Near)
        many = self.desk(row_of(comb(8)), "mower 1 0:0")
        self.refused(many, "twice 0:0 0:0", TooMany)
        self.refused(many, "walk 0:0 0:0", TooMany)
        self.says(many, "strokes", "9")
        self.says(many, "places", "25")

    def test_cells_of_no_field(self):
        desk = self.desk(FLOOR, "mower 1 0:0", "round 0:0")
        for word in ("bars", "twice", "walk"):
            for behind in ["0:0 2:0", "2:0 0:0", "0:6 0:0", "30:30 30:30", "2:0 2:0", "2:0 2:1"]:
                self.refused(desk, f"{word} {behind}", NoText)
        for word in ("round", "thing", "goes", "time"):
            for behind in ["2:0", "0:6", "30:30"]:
                self.refused(desk, f"{word} {behind}", NoText)
        self.says(desk, "left", "11")
        self.refused(self.desk("floor ...", "mower 1 0:0"), "round 5:5", NoText)

    def test_of_mowers_field_whatever_came_since(self):
        desk = self.desk(FLOOR, "mower 1 0:0", "round 0:0")
        ahead = [desk.say(row) for row in ["cells", "runs"] + OF_FIELD[:-1]]
        desk.say("thing 0:2")
        self.says(desk, "left", "3")
        self.assertEqual([desk.say(row) for row in ["cells", "runs"] + OF_FIELD[:-1]], ahead)
        self.says(desk, "round 1:5", "done")
        self.says(desk, "left", "11")
        self.says(desk, "lost", "0")


class Rounds(Told):
    def test_steps_all_round(self):
        for field, some in block_fields()[::5] + drawn_block_fields()[::3]:
            walk = ring(field, some_tree(field))
            desk = self.desk(row_of(field), f"mower 1 {cell_text(field[-1])}", f"round {cell_text(walk[2])}")
            for step in range(len(walk) + 2):
                self.says(desk, "step", cell_text(walk[(step + 3) % len(walk)]))
                self.says(desk, "left", str(max(0, len(walk) - step - 2)))
                self.says(desk, "lost", "0")
            self.says(desk, "turns", str(ring_turns(field, some_tree(field))))

    def test_a_round_begins_anew(self):
        desk = self.desk(FLOOR, "mower 1 0:0", "round 0:0")
        desk.say("step")
        desk.say("thing 0:4")
        self.says(desk, "lost", "4")
        self.says(desk, "round 0:0", "done")
        self.says(desk, "left", "11")
        self.says(desk, "lost", "0")
        self.refused(desk, "goes 0:4", NoBlock)
        self.says(desk, "step", "0:1")

    def test_a_field_not_of_blocks(self):
        desk = self.desk("floor .../...", "mower 1 0:0")
        self.refused(desk, "round 0:0", NoBlocks)
        self.refused(desk, "step", NoField)
        self.refused(desk, "round 5:0", NoText)

    def test_a_round_of_wider_mowers(self):
        desk = self.desk("floor ..../..../....", "mower 2 0:0")
        self.says(desk, "places", "6")
        self.refused(desk, "round 0:0", NoBlocks)
        desk = self.desk("floor ..../..../....", "mower 3 0:0")
        self.refused(desk, "round 0:0", NoBlocks)
        desk = self.desk("floor .../.../...", "mower 2 0:0", "round 1:1")
        self.says(desk, "step", "1:0")
        self.says(desk, "mown", "9")
        self.says(desk, "turns", "4")
        self.refused(desk, "round 2:2", NoText)
        self.says(desk, "step", "0:0")

    def test_things(self):
        desk = self.desk(FLOOR, "mower 1 0:0", "round 0:0")
        self.says(desk, "thing 0:4", "0:2")
        self.says(desk, "left", "7")
        self.says(desk, "lost", "4")
        self.says(desk, "turns", "4")
        self.says(desk, "thing 0:2", "0:0")
        self.says(desk, "goes 0:4", "-")
        self.says(desk, "goes 0:2", "0:0 0:2 0:4")
        self.says(desk, "lost", "0")

    def test_things_refused(self):
        desk = self.desk(FLOOR, "mower 1 0:0", "round 0:0")
        desk.say("thing 0:2")
        for row, error in [
            ("thing 0:0", Here), ("thing 0:2", NoBlock), ("thing 0:4", NoBlock), ("thing 1:1", NoBlock),
            ("thing 0:1", NoBlock),
            ("thing 2:2", NoText), ("thing 0:6", NoText), ("goes 0:0", NoBlock), ("goes 0:4", NoBlock),
            ("goes 1:2", NoBlock),
            ("goes 2:2", NoText), ("goes 0:6", NoText), ("round 2:2", NoText), ("time 0:2", NoText),
            ("time 0:0 0:4", NoText),
        ]:
            self.refused(desk, row, error)
            self.says(desk, "left", "3")
            self.says(desk, "lost", "8")

    def test_as_a_going_does(self):
        for seed, (field, some) in enumerate(drawn_block_fields()):
            source = random.Random(seed)
            start = source.choice(field)
            desk = self.desk(row_of(field), f"mower 1 {cell_text(field[0])}", f"round {cell_text(start)}")
            going = Going(field, some_tree(field), start)
            for _ in range(40):
                word = source.choice(["step", "step", "thing", "goes"])
                cell = source.choice(some + field[:4])
                row = word if word == "step" else f"{word} {cell_text(cell)}"
                try:
                    told = going.step() if word == "step" else getattr(going, word)(cell)
                except (NoBlock, Here) as error:
                    self.refused(desk, row, type(error))
                else:
                    self.says(desk, row, cell_text(told) if word == "step" else cells_text(told))
                self.says(desk, "left", str(len(going.left())))
                self.says(desk, "lost", str(len(going.lost())))
                self.says(desk, "turns", str(ring_turns(going.field(), going.tree())))
                walk = ring(going.field(), going.tree())
                starts = sorted(source.sample(walk, min(len(walk), 1 + source.randrange(8))))
                least = least_time(len(walk), tuple(sorted(walk.index(cell) for cell in starts)))
                self.says(desk, "time " + cells_text(starts), str(least))


class Times(Told):
    def test_some(self):
        desk = self.desk(FLOOR, "mower 1 0:0", "round 0:0")
        self.says(desk, "time 0:0", "11")
        self.says(desk, "time 1:5", "11")
        self.says(desk, "time 0:0 1:5", "5")
        self.says(desk, "time 0:0 0:1 0:2 0:3 0:4 0:5 1:0 1:5", "2")

    def test_starts_that_are_none(self):
        desk = self.desk(FLOOR, "mower 1 0:0", "round 0:0")
        for behind in [
            "0:0 0:0", "0:1 0:0", "1:0 0:5", "0:0 0:1 0:1", "0:0 2:0", "2:0", "0:0 0:1 0:2 0:3 0:4 0:5 1:0 1:1 1:2",
            "0:6",
            "0:0 0:1 0:2 0:3 0:4 0:5 1:0 1:1 1:1",
        ]:
            self.refused(desk, "time " + behind, NoText)
            self.says(desk, "left", "11")
        for behind in ["0:0 0:0", "0:1 0:0", "9:9", "0:0 0:1 0:2 0:3 0:4 0:5 1:0 1:1 1:2"]:
            self.refused(Desk(), "time " + behind, NoField)
            self.refused(self.desk(FLOOR, "mower 1 0:0"), "time " + behind, NoField)

    def test_on_the_ring_as_it_is(self):
        desk = self.desk(FLOOR, "mower 1 0:0", "round 0:0")
        self.says(desk, "time 0:4", "11")
        desk.say("thing 0:4")
        self.refused(desk, "time 0:4", NoText)
        self.refused(desk, "time 0:0 0:4", NoText)
        self.says(desk, "time 0:0", "7")
        self.says(desk, "time 0:3 1:3", "3")
        desk.say("goes 0:4")
        self.says(desk, "time 0:4", "11")


class Refusals(Told):
    def test_what_is_none_of_these_rows(self):
        desks = [
            Desk(), self.desk(FLOOR), self.desk(FLOOR, "mower 1 0:0"), self.desk(FLOOR, "mower 1 0:0", "round 0:0"),
        ]
        rows = [
            "", " ", "x", "Cells", "CELLS", "cell", "cellss", "floor", "mower", "bars", "twice", "walk", "round",
            "thing", "goes", "time",
            "floor . .", "floor . 0:0", "mower 1", "mower 0:0", "mower 0:0 1", "mower 1 0:0 0:0", "mower 1 1 0:0",
            "mower 0 0:0",
            "mower 7 0:0", "mower 01 0:0", "mower -1 0:0", "mower +1 0:0", "mower 1. 0:0", "mower x 0:0", "mower  0:0",
            "mower 10 0:0",
            "mower \u0661 0:0", "mower \u00b9 0:0", "mower 1 0", "mower 1 0:", "mower 1 :0", "mower 1 :",
            "mower 1 0:0:0", "mower 1 0;0",
            "mower 1 31:0", "mower 1 0:31", "mower 1 00:0", "mower 1 0:00", "mower 1 01:0", "mower 1 0:01",
            "mower 1 -0:0",
            "mower 1 -1:0", "mower 1 0:-1", "mower 1 +0:0", "mower 1 0.0:0", "mower 1 0x0:0", "mower 1 0:0_0",
            "mower 1 1_0:0",
            "mower 1 \u0660:0", "mower 1 0:\u0660", "mower 1 (0,0)", "mower 1 0:0\n", "mower 1\n0:0", "mower 1\t0:0",
            "mower\t1 0:0",
            "bars 0:0", "bars 0:0 1:5 0:0", "bars 0:0  1:5", "bars 0:0 1:05", "bars 0:0 31:5", "bars 0:0,1:5",
            "twice 0:0", "walk 0:0",
            "twice 0:0 1:5 1:5", "walk 0:0 1:5 1:5", "twice 0:0 1:", "walk 0:0 1", "round 0:0 0:0", "round 0",
            "round 00:0",
            "round 0:100", "thing 0:0 0:2", "thing 0", "goes 0:0 0:2", "goes 0", "thing 0:02", "goes 0:02", "thing -",
            "goes -",
            "time 0", "time 0:0 0", "time 0:0 0:1 ", "time  0:0", "time 0:0  0:1", "time 0:0 0:01", "time 0:0 0:31",
            "time -",
            "time 0:0 0:1 0:2 0:3 0:4 0:5 1:0 1:1 x", "cells 0", "cells 0:0", "runs 0:0", "places 0:0", "mown 0:0",
            "mown 1",
            "strokes 0:0", "step 0:0", "step 1", "left 0:0", "lost 0:0", "turns 0:0", "done", "at", "field", "tree",
            "ring", "blocks",
        ]
        for row in rows:
            for desk in desks:
                self.refused(desk, row, NoText)

    def test_blanks_more_or_fewer_and_other_signs(self):
        for rows in [[], [FLOOR], [FLOOR, "mower 1 0:0"], [FLOOR, "mower 1 0:0", "round 0:0"]]:
            desk = self.desk(*rows)
            for row in ROWS:
                for spoilt in [
                    " " + row, row + " ", "  " + row, row + "  ", "\n" + row, row + "\n", "\t" + row, row + "\t",
                    row + "\r", row + "\x00",
                    row.upper() if row.upper() != row else "x", row.title(), row + " x", "x " + row, row + ".x",
                    row + "\u00a0",
                ]:
                    self.refused(desk, spoilt, NoText)
                if " " in row:
                    for sign in ["  ", "", "\t", "\n", "\u00a0", "_", " \t"]:
                        self.refused(desk, row.replace(" ", sign, 1), NoText)

    def test_things_of_any_kind(self):
        desk = self.desk(FLOOR, "mower 1 0:0", "round 0:0")
        for thing in junk() + [b"cells", ["cells"], ("cells",), bytearray(b"cells"), {"cells": 1}]:
            self.refused(desk, thing, NoText)
            self.refused(Desk(), thing, NoText)
        self.says(desk, "left", "11")

    def test_what_there_is_none_of_yet(self):
        for row in ROWS[1:]:
            self.refused(Desk(), row, NoField)
        for row in OF_FIELD + OF_ROUND:
            self.refused(self.desk(FLOOR), row, NoField)
        for row in OF_ROUND:
            self.refused(self.desk(FLOOR, "mower 1 0:0"), row, NoField)
        for row in ROWS:
            if row != "goes 0:2":
                self.assertIs(type(self.desk(FLOOR, "mower 1 0:0", "round 0:0").say(row)), str)

    def test_no_text_then_no_field_then_no_text(self):
        self.refused(Desk(), "mower 7 0:0", NoText)
        self.refused(Desk(), "mower 1 30:30", NoField)
        self.refused(self.desk("floor #"), "mower 1 30:30", NoFit)
        self.refused(Desk(), "bars 0:0 31:0", NoText)
        self.refused(self.desk(FLOOR), "bars 0:0 30:0", NoField)
        self.refused(self.desk(FLOOR), "bars 0:0 0:0", NoField)
        self.refused(self.desk(FLOOR, "mower 1 0:0"), "bars 30:0 30:0", NoText)
        self.refused(self.desk(FLOOR, "mower 1 0:0"), "bars 30:0 30:1", NoText)
        self.refused(self.desk(FLOOR), "round 30:0", NoField)
        self.refused(self.desk("floor .", "mower 1 0:0"), "round 30:0", NoText)
        self.refused(self.desk("floor .", "mower 1 0:0"), "round 0:0", NoBlocks)
        self.refused(self.desk(FLOOR, "mower 1 0:0"), "thing 30:0", NoField)
        self.refused(self.desk(FLOOR, "mower 1 0:0"), "goes 30:0", NoField)
        self.refused(self.desk(FLOOR, "mower 1 0:0", "round 0:0"), "thing 30:0", NoText)
        self.refused(self.desk(FLOOR, "mower 1 0:0", "round 0:0"), "goes 30:0", NoText)
        many = row_of(comb(8))
        self.refused(self.desk(many, "mower 1 0:0"), "twice 0:0 1:0", NoText)
        self.refused(self.desk(many, "mower 1 0:0"), "walk 1:0 0:0", NoText)
        self.refused(self.desk(many, "mower 1 0:0"), "walk 0:0 0:0", TooMany)

    def test_what_is_refused_changes_nothing(self):
        rows = [
            "mower 7 0:0", "mower 2 1:1", "mower 1 9:9", "floor", "floor ..x", "floor ..\n..", "bars 0:0 0:1",
            "bars 9:9 0:0", "round 9:9",
            "round x", "thing 0:0", "thing 0:1", "thing 9:9", "goes 0:0", "goes 9:9", "time 0:1 0:0", "time 9:9",
            "time", "step x", "left x",
        ]
        asked = ["cells", "runs", "places", "mown", "strokes", "bars 0:0 1:5", "twice 0:0 1:5"]
        asked = asked + ["left", "lost", "turns", "time 0:0 1:3"]
        desk = self.desk(FLOOR, "mower 1 0:0", "round 0:0")
        desk.say("thing 0:4")
        ahead = [desk.say(row) for row in asked]
        for row in rows:
            with self.assertRaises(MowError):
                desk.say(row)
            self.assertEqual([desk.say(row) for row in asked], ahead)
        self.says(desk, "step", "0:1")
        self.says(desk, "goes 0:4", "0:2 0:4")

    def test_a_round_refused_leaves_the_one_ahead(self):
        desk = self.desk(FLOOR, "mower 1 0:0", "round 0:0")
        desk.say("step")
        self.refused(desk, "round 5:5", NoText)
        self.says(desk, "step", "0:2")
        self.says(desk, "left", "9")


class ByTurns(Told):
    def test_two_desks(self):
        one, other = Desk(), Desk()
        self.says(one, FLOOR, "done")
        self.refused(other, "cells", NoField)
        self.says(other, "floor ../..", "done")
        self.says(one, "cells", "12")
        self.says(one, "mower 1 0:0", "done")
        self.refused(other, "places", NoField)
        self.says(other, "mower 2 0:0", "done")
        self.says(one, "places", "12")
        self.says(other, "places", "1")
        self.says(other, "mower 1 0:0", "done")
        self.says(one, "round 0:0", "done")
        self.refused(other, "left", NoField)
        self.says(other, "round 1:1", "done")
        self.says(one, "step", "0:1")
        self.says(other, "left", "3")
        self.says(one, "thing 0:4", "0:2")
        self.says(other, "lost", "0")
        self.refused(other, "goes 0:4", NoText)
        self.says(one, "goes 0:4", "0:2 0:4")

    def test_two_desks_on_one_floor(self):
        field = of_blocks(drawn_text("...\n.#.\n...\n"))
        rows = [row_of(field), "mower 1 0:0", "round 0:0"]
        one, other, alone = self.desk(*rows), self.desk(*rows), self.desk(*rows)
        for row in [
            "step", "thing 0:4", "step", "left", "thing 2:0", "lost", "goes 0:4", "turns", "step", "time 0:0 1:1", "left",
        ]:
            self.assertEqual(one.say(row), alone.say(row))
            other.say("step")
        self.says(other, "lost", "0")
        self.says(other, "left", "20")

    def test_the_same_rows_tell_the_same(self):
        told = [[self.desk(*ROWS[:2], "round 0:0").say(row) for row in ROWS if row != "goes 0:2"] for _ in range(2)]
        self.assertEqual(told[0], told[1])
