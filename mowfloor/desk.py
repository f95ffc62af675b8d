"""The desk: rows of words in, texts out."""

from mowfloor.again import again
from mowfloor.along import all_lanes
from mowfloor.bars import barred
from mowfloor.cells import is_cell, is_rising
from mowfloor.deskrows import asked_of, show_cell, show_cells
from mowfloor.errors import NoField, NoText
from mowfloor.fewest import fewest_runs
from mowfloor.going import Going
from mowfloor.places import mown, places
from mowfloor.rings import ring, ring_turns
from mowfloor.several import spots_of
from mowfloor.strokes import strokes
from mowfloor.times import least_time
from mowfloor.trees import some_tree

DONE = "done"
MOST_STARTS = 8
OF_FLOOR = ("cells", "runs")
OF_FIELD = ("places", "mown", "strokes")
OF_TWO_CELLS = ("bars", "twice", "walk")


def ask_cells(field, cells):
    if not all([cell in field for cell in cells]):
        raise NoText("not all cells are of the field")


def ask_starts(field, starts):
    if len(starts) > MOST_STARTS or not is_rising(starts, is_cell):
        raise NoText("starts are one to eight cells that rise")
    ask_cells(field, starts)


def tell_of_floor(floor, word):
    if word == "cells":
        return str(len(floor))
    return str(len(fewest_runs(floor)[0]))


def tell_of_field(field, width, word):
    if word == "places":
        return str(len(field))
    if word == "mown":
        return str(len(mown(field, width)))
    return str(len(strokes(field)))


def tell_of_two_cells(field, word, cells):
    ask_cells(field, cells)
    if word == "bars":
        return show_cells(barred(field, cells[0], cells[1])[0])
    if word == "twice":
        return str(len(again(field, cells[0], cells[1])))
    return str(len(all_lanes(field, cells[0], cells[1])) - 1)


def tell_time(going, starts):
    ask_starts(going.field(), starts)
    walk = ring(going.field(), going.tree())
    return str(least_time(len(walk), spots_of(walk, starts)))


# The cells are asked of the mower's field, as the round's one may have lost them since.
def tell_of_round(field, going, word, cells):
    if word == "time":
        return tell_time(going, cells)
    ask_cells(field, cells)
    if word == "step":
        return show_cell(going.step())
    if word == "thing":
        return show_cells(going.thing(cells[0]))
    if word == "goes":
        return show_cells(going.goes(cells[0]))
    if word == "left":
        return str(len(going.left()))
    if word == "lost":
        return str(len(going.lost()))
    return str(ring_turns(going.field(), going.tree()))


class Desk:
    def __init__(self):
        self.ground = None
        self.area = None
        self.width = None
        self.going = None

    def say(self, row):
        asked = asked_of(row)
        word = asked[0]
        things = asked[1]
        if word == "floor":
            return self.lay(things[0])
        if self.ground is None:
            raise NoField("there is no floor yet")
        if word == "mower":
            return self.put(things[0], things[1])
        if word in OF_FLOOR:
            return tell_of_floor(self.ground, word)
        if self.area is None:
            raise NoField("there is no field yet")
        if word in OF_FIELD:
            return tell_of_field(self.area, self.width, word)
        if word in OF_TWO_CELLS:
            return tell_of_two_cells(self.area, word, things)
        if word == "round":
            return self.begin(things)
        if self.going is None:
            raise NoField("there is no round yet")
        return tell_of_round(self.area, self.going, word, things)

    def lay(self, floor):
        self.ground = floor
        self.area = None
        self.going = None
        return DONE

    # The field is made ahead of all changes, as it may be refused.
    def put(self, width, start):
        self.area = places(self.ground, width, start)
        self.width = width
        self.going = None
        return DONE

    def begin(self, cells):
        ask_cells(self.area, cells)
        self.going = Going(self.area, some_tree(self.area), cells[0])
        return DONE
