"""The lanes of a field, and the cells that are odd on the way from one cell to another one."""

from mowfloor.cells import lookup
from mowfloor.floors import neighbours


def lanes(field):
    free = lookup(field)
    found = []
    for cell in field:
        found.extend([(cell, beside) for beside in neighbours(free, cell) if cell < beside])
    return tuple(found)


def odd_cells(field, a, b):
    free = lookup(field)
    return tuple([cell for cell in field if (len(neighbours(free, cell)) + (a, b).count(cell)) % 2 == 1])
