"""A look at what is said to be the fewest runs."""

from mowfloor.cells import is_pair, is_rising, is_whole, lookup
from mowfloor.runs import run_cells, runs


def is_run_like(thing):
    if not isinstance(thing, tuple) or len(thing) != 3:
        return False
    return isinstance(thing[0], str) and is_pair(thing[1]) and is_whole(thing[2])


def are_all_in(things, found):
    return all([thing in found for thing in things])


def hold_all(some, floor):
    held = {}
    for run in some:
        held.update(lookup(run_cells(run)))
    return are_all_in(floor, held)


def are_apart(cells, every):
    picked = lookup(cells)
    return all([len([cell for cell in run_cells(run) if cell in picked]) <= 1 for run in every])


# Each run holds one of cells at most, so no fewer runs than these can hold all of them.
def shows_fewest(floor, some, cells):
    if not is_rising(some, is_run_like) or not is_rising(cells, is_pair) or len(some) != len(cells):
        return False
    every = runs(floor)
    if not are_all_in(some, lookup(every)) or not are_all_in(cells, lookup(floor)):
        return False
    return hold_all(some, floor) and are_apart(cells, every)
