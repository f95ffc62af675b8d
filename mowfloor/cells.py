"""What all parts need of cells: their kind, what lies around them, what is come to from one."""

GREATEST = 30


def is_whole(thing):
    return isinstance(thing, int) and not isinstance(thing, bool)


# Without the bounds of a cell: the lookers go on to ask whether the pair is of the floor.
def is_pair(thing):
    return isinstance(thing, tuple) and len(thing) == 2 and is_whole(thing[0]) and is_whole(thing[1])


def are_two_pairs(thing):
    return isinstance(thing, tuple) and len(thing) == 2 and is_pair(thing[0]) and is_pair(thing[1])


def is_of(field, thing):
    return is_pair(thing) and thing in field


def is_cell(thing):
    return is_pair(thing) and 0 <= thing[0] <= GREATEST and 0 <= thing[1] <= GREATEST


# The kind is asked of all before any two are compared, so that nothing handed in can make "<" fail.
def is_rising(thing, is_kind):
    if not isinstance(thing, tuple) or not all([is_kind(part) for part in thing]):
        return False
    return all([ahead < behind for ahead, behind in zip(thing, thing[1:])])


def lesser_first(one, other):
    return (min(one, other), max(one, other))


def lookup(things):
    found = {}
    for thing in things:
        found[thing] = True
    return found


# In rising order, so that what is picked from these is rising, too.
def around(cell):
    row = cell[0]
    column = cell[1]
    return [(row - 1, column), (row, column - 1), (row, column + 1), (row + 1, column)]


def reached(free, start):
    found = {start: True}
    waiting = [start]
    while waiting:
        for cell in around(waiting.pop()):
            if cell in free and cell not in found:
                found[cell] = True
                waiting.append(cell)
    return tuple(sorted(found))
