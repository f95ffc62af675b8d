"""How many steps lie between cells, and by how few steps cells are paired."""

from mowfloor.cells import around


def steps_from(free, start):
    steps = {start: 0}
    layer = [start]
    while layer:
        behind = []
        for cell in layer:
            for beside in around(cell):
                if beside in free and beside not in steps:
                    steps[beside] = steps[cell] + 1
                    behind.append(beside)
        layer = behind
    return steps


# For each of the cells, the steps from it to all others of the field.
def steps_from_each(free, cells):
    away = {}
    for cell in cells:
        away[cell] = steps_from(free, cell)
    return away


def without(cells, one, other):
    return tuple([cell for cell in cells if cell != one and cell != other])


def pairs_with(away, cells, other, known):
    fewest = fewest_pairs(away, without(cells, cells[0], other), known)
    return (away[cells[0]][other] + fewest[0], ((cells[0], other),) + fewest[1])


# (steps, pairs) of an even number of cells. Known keeps what was found for fewer of them, as the same ones are left
# over by many a choice of the first pairs.
def fewest_pairs(away, cells, known):
    if len(cells) == 0:
        return (0, ())
    if cells not in known:
        known[cells] = min([pairs_with(away, cells, other, known) for other in cells[1:]])
    return known[cells]
