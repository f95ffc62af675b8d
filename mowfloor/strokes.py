"""The fewest walks that together go along each lane just once.

At each cell that has an odd number of lanes one walk at least begins or ends, so there are half as many walks as such
cells, at least. To have no more, each such cell is joined to a place outside: one round walk from there goes along all
lanes, and parted where it comes by the outside it is these walks.
"""

from mowfloor.along import walk_along, ways_by
from mowfloor.lanes import lanes, odd_cells

OUTSIDE = (-1, -1)


# From a cell to itself, odd are just the cells that have an odd number of lanes. Where there are none, one walk does
# it, with both its ends in one cell.
def ends_of(field):
    odd = odd_cells(field, field[0], field[0])
    if len(odd) == 0:
        return (field[0], field[0])
    return odd


def parted(walk):
    found = []
    part = []
    for cell in walk[1:]:
        if cell == OUTSIDE:
            found.append(tuple(part))
            part = []
        else:
            part.append(cell)
    return tuple(found)


def strokes(field):
    some = lanes(field)
    if len(some) == 0:
        return ()
    outward = tuple([(OUTSIDE, cell) for cell in ends_of(field)])
    return parted(walk_along(ways_by((OUTSIDE,) + field, some + outward), OUTSIDE))
