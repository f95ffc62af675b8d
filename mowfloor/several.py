"""Several mowers on one ring, each on a stretch of its own."""

from mowfloor.cells import lookup
from mowfloor.rings import ring
from mowfloor.times import shares

LEFT = -1
RIGHT = 1


def spots_of(walk, starts):
    return tuple(sorted([walk.index(start) for start in starts]))


# For each start its share, as the starts' places on the ring rise in another order than the starts.
def shares_by_start(walk, starts):
    spots = spots_of(walk, starts)
    found = {}
    for spot, share in zip(spots, shares(len(walk), spots)):
        found[walk[spot]] = share
    return found


def side(walk, start, way, many):
    spot = walk.index(start)
    return [walk[(spot + way * step) % len(walk)] for step in range(1, many + 1)]


# Out to the side with fewer, back, and to the other one.
def walk_of_share(walk, start, share):
    left = side(walk, start, LEFT, share[0])
    right = side(walk, start, RIGHT, share[1])
    fewer = left if share[0] <= share[1] else right
    more = right if share[0] <= share[1] else left
    out = [start] + fewer
    return tuple(out + list(reversed(out[:-1])) + more)


def several(field, tree, starts):
    walk = ring(field, tree)
    found = shares_by_start(walk, starts)
    return tuple([walk_of_share(walk, start, found[start]) for start in starts])


def whose(field, tree, starts):
    found = []
    for start, walk in zip(starts, several(field, tree, starts)):
        found.extend([(cell, start) for cell in lookup(walk)])
    return tuple(sorted(found))
