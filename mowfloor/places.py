"""What a mower of some width comes to and mows, and why it can't mow the rest."""

from mowfloor.cells import around, is_pair, is_rising, lookup, reached
from mowfloor.errors import NoFit


def under(place, width):
    return [(place[0] + step // width, place[1] + step % width) for step in range(width * width)]


# A place is itself one of the cells under the mower, so only cells of the floor need be asked.
def fitting(floor, width):
    free = lookup(floor)
    return lookup([place for place in floor if all([cell in free for cell in under(place, width)])])


def places(floor, width, start):
    fits = fitting(floor, width)
    if start not in fits:
        raise NoFit("the mower doesn't fit at its start")
    return reached(fits, start)


def mown(field, width):
    found = {}
    for place in field:
        found.update(lookup(under(place, width)))
    return tuple(sorted(found))


def never(floor, width, start, cell):
    field = places(floor, width, start)
    if cell in mown(field, width):
        return None
    return field


# As start is in the paper and the mower fits at all of it, a start where it doesn't fit is False, too.
def shows_never(floor, width, start, cell, thing):
    if not is_rising(thing, is_pair):
        return False
    fits = fitting(floor, width)
    paper = lookup(thing)
    if start not in paper:
        return False
    for place in thing:
        if place not in fits or cell in under(place, width):
            return False
        if any([beside in fits and beside not in paper for beside in around(place)]):
            return False
    return True
