"""Floors as texts."""

from mowfloor.cells import lookup
from mowfloor.errors import NoText
from mowfloor.floors import is_floor

FREE = "."
TAKEN = "#"
MOST = 31


def show_floor(floor):
    if not is_floor(floor):
        raise NoText("only a floor has a text")
    free = lookup(floor)
    height = max([cell[0] for cell in floor], default=0) + 1
    width = max([cell[1] for cell in floor], default=0) + 1
    return "\n".join([show_row(free, row, width) for row in range(height)])


def show_row(free, row, width):
    return "".join([FREE if (row, column) in free else TAKEN for column in range(width)])


def read_floor(text):
    if not isinstance(text, str):
        raise NoText("a floor is read from a text alone")
    rows = text.split("\n")
    if len(rows) > MOST:
        raise NoText("a floor's text has 31 rows at most")
    found = []
    for row, signs in enumerate(rows):
        found.extend(read_row(row, signs))
    return tuple(found)


def read_row(row, signs):
    if not 1 <= len(signs) <= MOST:
        raise NoText("a row of a floor's text has 1 to 31 signs")
    if not all([sign == FREE or sign == TAKEN for sign in signs]):
        raise NoText("a floor's text has no signs but . and #")
    return [(row, column) for column, sign in enumerate(signs) if sign == FREE]
