"""A look at a walk that is said to have the fewest steps along all lanes."""

from mowfloor.along import gone
from mowfloor.lanelooks import are_fences
from mowfloor.lanes import lanes
from mowfloor.walks import is_walk


# Such a walk goes over each fence once more than there are lanes that lead out of it: no fewer steps would do.
def shows_walk(field, a, b, walk, thing):
    if not are_fences(field, a, b, thing) or not is_walk(field, walk) or walk[0] != a or walk[-1] != b:
        return False
    many = len(lanes(field))
    return len(gone(walk)) == many and len(walk) - 1 - many == len(thing)
