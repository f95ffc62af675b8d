"""The blocks, two by two cells, into which a field is cut."""

from mowfloor.cells import lookup
from mowfloor.errors import NoBlocks

SIDE = 2


# The least cell of a field is the least one of its block, so it settles how all other blocks lie.
def block_of(field, cell):
    return (cell[0] - (cell[0] - field[0][0]) % SIDE, cell[1] - (cell[1] - field[0][1]) % SIDE)


# Each cell is in one of these blocks, so the count tells whether all cells of the blocks are of the field.
def blocks(field):
    found = lookup([block_of(field, cell) for cell in field])
    if len(field) != len(found) * SIDE * SIDE:
        raise NoBlocks("the field can't be cut into blocks")
    return tuple(sorted(found))
