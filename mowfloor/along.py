"""Walks along all lanes, and how often a walk goes along each."""

from mowfloor.again import again
from mowfloor.cells import lesser_first
from mowfloor.lanes import lanes


# For each cell, the cells to which a walk has yet to go from there or come from: each lane at both its ends.
def ways_by(cells, some):
    ways = {}
    for cell in cells:
        ways[cell] = []
    for lane in some:
        ways[lane[0]].append(lane[1])
        ways[lane[1]].append(lane[0])
    return ways


# Uses up the ways. It goes on until no way is left, then back, and anew from wherever one is left. What it goes back
# from is the walk from its end on, as all that it goes anew comes back to where that began.
def walk_along(ways, start):
    found = []
    going = [start]
    while going:
        cell = going[-1]
        if ways[cell]:
            beside = ways[cell].pop()
            ways[beside].remove(cell)
            going.append(beside)
        else:
            found.append(going.pop())
    return tuple(reversed(found))


def all_lanes(field, a, b):
    return walk_along(ways_by(field, lanes(field) + again(field, a, b)), a)


def gone(walk):
    often = {}
    for ahead, behind in zip(walk, walk[1:]):
        lane = lesser_first(ahead, behind)
        often[lane] = often.get(lane, 0) + 1
    return tuple(sorted(often.items()))
