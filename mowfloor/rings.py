"""Rings round trees, by which each cell is come to just once."""

from mowfloor.blocks import SIDE, block_of
from mowfloor.cells import lesser_first
from mowfloor.walks import turns

# For each cell of a block, as it lies there: the way out, where a branch leads that way, and the way within.
WAYS = {
    (0, 0): ((-1, 0), (0, 1)),
    (0, 1): ((0, 1), (1, 0)),
    (1, 1): ((1, 0), (0, -1)),
    (1, 0): ((0, -1), (-1, 0)),
}


def moved(cell, way, many):
    return (cell[0] + way[0] * many, cell[1] + way[1] * many)


def next_round(field, tree, cell):
    block = block_of(field, cell)
    ways = WAYS[(cell[0] - block[0], cell[1] - block[1])]
    if lesser_first(block, moved(block, ways[0], SIDE)) in tree:
        return moved(cell, ways[0], 1)
    return moved(cell, ways[1], 1)


def ring(field, tree):
    walk = [field[0]]
    while len(walk) < len(field):
        walk.append(next_round(field, tree, walk[-1]))
    return tuple(walk)


def ring_turns(field, tree):
    walk = ring(field, tree)
    return turns(walk + walk[:2])
