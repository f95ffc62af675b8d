"""Fences that show that no walk along all lanes goes fewer of them twice.

One odd cell is home. A cell's height is how many lanes would do if home were not odd, and this cell were odd where it
isn't, not odd where it is. Neighbours are just one apart in height, as any way round has an even number of steps. So,
of all parts into which the cells up to some height fall, a lane leads out of one alone. A part without home is a
fence, and just one of the fewest lanes leads out of it; out of a part with home none of them does.
"""

from mowfloor.again import few_odd_cells
from mowfloor.cells import lookup
from mowfloor.floors import parts
from mowfloor.steps import fewest_pairs, steps_from_each, without


def heights_of(field, odd):
    away = steps_from_each(lookup(field), odd)
    known = {}
    rest = {}
    for other in odd[1:]:
        rest[other] = fewest_pairs(away, without(odd, odd[0], other), known)[0]
    heights = {}
    for cell in field:
        heights[cell] = min([away[other][cell] + rest[other] for other in rest])
    return heights


def fences(field, a, b):
    odd = few_odd_cells(field, a, b)
    if len(odd) == 0:
        return ()
    heights = heights_of(field, odd)
    found = []
    for height in range(min(heights.values()), max(heights.values())):
        low = tuple([cell for cell in field if heights[cell] <= height])
        found.extend([part for part in parts(low) if odd[0] not in part])
    return tuple(sorted(found))
