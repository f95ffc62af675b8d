"""The fewest cells that bar the way from one cell to another one, and as many ways apart.

Ways are found one by one, each by a search that may move those found ahead of it. A search goes by spots, two a cell:
where one comes in, and where one goes out. In a cell without a way one goes on from in to out. In a cell with a way one
takes the way over from there, and the cell ahead on it must go on otherwise: so one goes to where one goes out of that
one; from there on, or, if the way is to leave that cell too, to where one comes into it. When a search no longer comes
to the end, the cells that it comes into, but not out of, bar the way, one on each way.
"""

from mowfloor.cells import around
from mowfloor.errors import Near

IN = "in"
OUT = "out"


# Ahead has, for each cell of the field, the one from which its way comes; where it has no way, itself.
def onward(ahead, spot):
    cell = spot[0]
    if spot[1] == IN:
        return [(ahead[cell], OUT)]
    return [(cell, IN)] + [(beside, IN) for beside in around(cell) if beside in ahead]


# Each spot that is come to, with the one from which it is.
def search(ahead, a):
    start = (a, OUT)
    came = {start: None}
    layer = [start]
    while layer:
        behind = []
        for spot in layer:
            for further in onward(ahead, spot):
                if further not in came:
                    came[further] = spot
                    behind.append(further)
        layer = behind
    return came


# Where the search came in from out of the very same cell, its way leaves it: it is then ahead of itself, as at first.
def lay_way(ahead, came, last):
    spot = (last, OUT)
    while came[spot] is not None:
        if spot[1] == IN:
            ahead[spot[0]] = came[spot][0]
        spot = came[spot]


def way_back(ahead, a, last):
    way = [last]
    while way[-1] != a:
        way.append(ahead[way[-1]])
    return way


def barred(field, a, b):
    if a == b or b in around(a):
        raise Near("the two cells are alike or neighbours")
    ahead = dict([(cell, cell) for cell in field])
    lasts = []
    came = search(ahead, a)
    while (b, IN) in came:
        lasts.append(came[(b, IN)][0])
        lay_way(ahead, came, lasts[-1])
        came = search(ahead, a)
    cells = [cell for cell in field if (cell, IN) in came and (cell, OUT) not in came]
    ways = [tuple(reversed([b] + way_back(ahead, a, last))) for last in lasts]
    return (tuple(cells), tuple(sorted(ways)))
