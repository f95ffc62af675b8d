"""The runs of a floor: its cells side by side, or one below the other, as many as can be."""

from mowfloor.cells import lookup

DOWN = "down"
RIGHT = "right"


def further(word, cell, many):
    if word == DOWN:
        return (cell[0] + many, cell[1])
    return (cell[0], cell[1] + many)


def run_from(free, word, cell):
    many = 1
    while further(word, cell, many) in free:
        many += 1
    return (word, cell, many)


def runs_of_word(floor, word):
    free = lookup(floor)
    return [run_from(free, word, cell) for cell in floor if further(word, cell, -1) not in free]


def runs(floor):
    return tuple(sorted(runs_of_word(floor, DOWN) + runs_of_word(floor, RIGHT)))


def run_cells(run):
    return [further(run[0], run[1], many) for many in range(run[2])]
