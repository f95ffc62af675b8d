"""The least time in which several mowers mow a ring, and their shares of it.

For a time, the first mower's left is tried; each next one then has as few places to its left as can be, those that the
one ahead leaves over. As fewer places to the left never leave less time for the right, no other lefts would do where
these don't.
"""


# How many places lie between each spot and the next one; behind the last one the first, so for one spot all others.
def between(many, spots):
    return [(behind - ahead - 1) % many for ahead, behind in zip(spots, spots[1:] + spots[:1])]


# The side with fewer places is gone twice: that is the left one as long as the right one may have as many.
def room(time, left):
    if left > time:
        return None
    if left * 3 <= time:
        return time - left * 2
    return (time - left) // 2


# The greatest left of the first spot.
def greatest_left(spaces, time):
    return min(time, spaces[-1])


# For each spot its left, from the given one of the first spot on; ends behind the first left without room.
def row_from(spaces, time, left):
    row = [left]
    for space in spaces[:-1]:
        right = room(time, row[-1])
        if right is None:
            return tuple(row)
        row.append(max(0, space - right))
    return tuple(row)


# A row that ends ahead of the last spot has no room there, so it need not be asked how long it is.
def goes_through(spaces, time, row):
    right = room(time, row[-1])
    return right is not None and right + row[0] >= spaces[-1]


def rows_of(spaces, time):
    return [row_from(spaces, time, left) for left in range(greatest_left(spaces, time) + 1)]


def rows_through(spaces, time):
    return [row for row in rows_of(spaces, time) if goes_through(spaces, time, row)]


# More time never makes it worse, and each mower may go all the way to the next one: so the least is found by halves.
def least_time(many, spots):
    spaces = between(many, spots)
    least = 0
    enough = many - 1
    while least < enough:
        middle = (least + enough) // 2
        if rows_through(spaces, middle):
            enough = middle
        else:
            least = middle + 1
    return least


def shares(many, spots):
    spaces = between(many, spots)
    lefts = rows_through(spaces, least_time(many, spots))[0]
    rights = [space - left for space, left in zip(spaces, lefts[1:] + lefts[:1])]
    return tuple(zip(lefts, rights))
