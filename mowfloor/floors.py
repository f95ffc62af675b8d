"""Floors, fields, neighbours, parts."""

from mowfloor.cells import around, is_cell, is_rising, lookup, reached


def is_floor(thing):
    return is_rising(thing, is_cell)


def is_field(thing):
    if not is_floor(thing) or len(thing) == 0:
        return False
    return len(reached(lookup(thing), thing[0])) == len(thing)


def neighbours(floor, cell):
    return tuple([beside for beside in around(cell) if beside in floor])


def parts(floor):
    free = lookup(floor)
    placed = {}
    found = []
    for cell in floor:
        if cell not in placed:
            part = reached(free, cell)
            placed.update(lookup(part))
            found.append(part)
    return tuple(found)
