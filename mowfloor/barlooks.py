"""A look at cells that are said to bar a way, and at as many ways apart."""

from mowfloor.cells import around, is_of, is_pair, is_rising, lookup, reached
from mowfloor.floors import is_field
from mowfloor.walks import is_walk


def is_way_like(thing):
    return isinstance(thing, tuple) and all([is_pair(part) for part in thing])


# There is a way to bar between cells of a field alone that are neither alike nor neighbours.
def can_be_barred(field, a, b):
    return is_field(field) and is_of(field, a) and is_of(field, b) and a != b and b not in around(a)


def do_bar(field, a, b, cells):
    shut = lookup(cells)
    if a in shut or b in shut:
        return False
    return b not in reached(lookup([cell for cell in field if cell not in shut]), a)


def are_ways_apart(field, a, b, ways):
    met = [a, b]
    for way in ways:
        if not is_walk(field, way) or way[0] != a or way[-1] != b:
            return False
        met.extend(way[1:-1])
    return len(lookup(met)) == len(met)


# Each way has one of the cells at least, and no cell is in two ways: no fewer cells would do, and as there are as many
# of both, each cell is in some way, and so of the field.
def shows_barred(field, a, b, cells, ways):
    if not can_be_barred(field, a, b) or not is_rising(cells, is_pair) or not is_rising(ways, is_way_like):
        return False
    return len(cells) == len(ways) and do_bar(field, a, b, cells) and are_ways_apart(field, a, b, ways)
