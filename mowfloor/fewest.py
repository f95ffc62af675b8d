"""The fewest runs that hold all cells, and as many cells, no two of them in one run.

Each cell pairs the run down and the run to the right that cross in it. The most cells of which no two are in one
run are a greatest pairing of these, and as few runs as there are pairs then hold all cells.
"""

from mowfloor.runs import DOWN, RIGHT, run_cells, runs_of_word


def runs_across(floor):
    held = {}
    for right in runs_of_word(floor, RIGHT):
        for cell in run_cells(right):
            held[cell] = right
    across = {}
    for down in runs_of_word(floor, DOWN):
        across[down] = [held[cell] for cell in run_cells(down)]
    return across


# Each run to the right that is come to, with the run down from which it is; from one that is paired, its run down
# is gone on from. The search ends at one that isn't paired: told with what was come to, else None.
def search(across, down_of, starts):
    came = {}
    waiting = list(starts)
    while waiting:
        down = waiting.pop()
        for right in across[down]:
            if right not in came:
                came[right] = down
                if right not in down_of:
                    return (came, right)
                waiting.append(down_of[right])
    return (came, None)


# Pairs anew all along the way that led to end, by which there is one pair more.
def pair_along(down_of, right_of, came, end):
    right = end
    while right is not None:
        down = came[right]
        given_up = right_of.get(down)
        down_of[right] = down
        right_of[down] = right
        right = given_up


# What the last search came to is told, too: by it the runs are picked.
def greatest_pairing(across):
    down_of = {}
    right_of = {}
    while True:
        found = search(across, down_of, [down for down in across if down not in right_of])
        if found[1] is None:
            return (down_of, found[0])
        pair_along(down_of, right_of, found[0], found[1])


def fewest_runs(floor):
    pairing = greatest_pairing(runs_across(floor))
    down_of = pairing[0]
    came = pairing[1]
    some = [right if right in came else down for right, down in down_of.items()]
    cells = [(right[1][0], down[1][1]) for right, down in down_of.items()]
    return (tuple(sorted(some)), tuple(sorted(cells)))
