"""Walks of a field, and their turns."""

from mowfloor.cells import around, is_pair, lookup
from mowfloor.floors import is_field


# What is no field has no walks, so nothing handed in as one makes this fail.
def is_walk(field, thing):
    if not is_field(field) or not isinstance(thing, tuple) or len(thing) == 0:
        return False
    free = lookup(field)
    if not all([is_pair(cell) and cell in free for cell in thing]):
        return False
    return all([behind in around(ahead) for ahead, behind in zip(thing, thing[1:])])


def turns(walk):
    ways = [(behind[0] - ahead[0], behind[1] - ahead[1]) for ahead, behind in zip(walk, walk[1:])]
    return sum([1 for ahead, behind in zip(ways, ways[1:]) if ahead != behind])
