"""The rows that the desk takes, each read into its word and what stands behind it."""

from mowfloor.cells import GREATEST
from mowfloor.errors import NoText
from mowfloor.texts import read_floor

WIDEST = 6

# How many cells stand behind each word; time, of which there may be more, floor and mower are read by themselves.
CELLS_BEHIND = {
    "cells": 0, "runs": 0, "places": 0, "mown": 0, "strokes": 0, "bars": 2, "twice": 2, "walk": 2,
    "round": 1, "step": 0, "thing": 1, "goes": 1, "left": 0, "lost": 0, "turns": 0,
}


# Asked sign by sign, as Python reads further texts as numbers, such as those with a 0 ahead.
def number_of(text, least, greatest):
    for number in range(least, greatest + 1):
        if text == str(number):
            return number
    raise NoText("this is no number that may stand here")


def cell_of(text):
    numbers = text.split(":")
    if len(numbers) != 2:
        raise NoText("a cell is two numbers with a colon between")
    return (number_of(numbers[0], 0, GREATEST), number_of(numbers[1], 0, GREATEST))


def floor_of(text):
    if "\n" in text:
        raise NoText("a row of the desk has no line feed")
    return read_floor(text.replace("/", "\n"))


def has_cells_alone(word, many):
    if word == "time":
        return many > 0
    return CELLS_BEHIND.get(word) == many


def asked_of(row):
    if not isinstance(row, str):
        raise NoText("the desk takes texts alone")
    words = row.split(" ")
    word = words[0]
    behind = words[1:]
    if word == "floor" and len(behind) == 1:
        return (word, (floor_of(behind[0]),))
    if word == "mower" and len(behind) == 2:
        return (word, (number_of(behind[0], 1, WIDEST), cell_of(behind[1])))
    if not has_cells_alone(word, len(behind)):
        raise NoText("the desk has no such row")
    return (word, tuple([cell_of(text) for text in behind]))


def show_cell(cell):
    row = cell[0]
    column = cell[1]
    return f"{row}:{column}"


def show_cells(cells):
    if len(cells) == 0:
        return "-"
    return " ".join([show_cell(cell) for cell in cells])
