"""The fewest lanes that a walk along all lanes goes twice."""

from mowfloor.cells import around, lesser_first, lookup
from mowfloor.errors import TooMany
from mowfloor.lanes import odd_cells
from mowfloor.steps import fewest_pairs, steps_from_each

MOST = 14


def few_odd_cells(field, a, b):
    odd = odd_cells(field, a, b)
    if len(odd) > MOST:
        raise TooMany("there are more than 14 odd cells")
    return odd


# By as few steps as can be, to the cell from which the steps are counted.
def lanes_back(steps, cell):
    found = []
    while steps[cell] > 0:
        nearer = [beside for beside in around(cell) if steps.get(beside) == steps[cell] - 1][0]
        found.append(lesser_first(cell, nearer))
        cell = nearer
    return found


# No lane is in the ways of two pairs: without it, other pairs would have fewer steps.
def again(field, a, b):
    odd = few_odd_cells(field, a, b)
    away = steps_from_each(lookup(field), odd)
    found = []
    for one, other in fewest_pairs(away, odd, {})[1]:
        found.extend(lanes_back(away[one], other))
    return tuple(sorted(found))
