"""Papers that show that a time is too little for several mowers on a ring, and a look at them."""

from mowfloor.cells import is_rising, is_whole
from mowfloor.times import between, goes_through, greatest_left, rows_of


def too_little(many, spots, time):
    spaces = between(many, spots)
    rows = rows_of(spaces, time)
    if any([goes_through(spaces, time, row) for row in rows]):
        return None
    return tuple(rows)


def are_spots(many, spots):
    if not is_whole(many) or not is_rising(spots, is_whole) or len(spots) == 0:
        return False
    return 0 <= spots[0] and spots[-1] < many


def is_row_like(thing):
    return isinstance(thing, tuple) and all([is_whole(part) for part in thing])


def are_rows_like(thing):
    return isinstance(thing, tuple) and all([is_row_like(part) for part in thing])


# How many rows there are is asked first, so that no more rows are made than were handed in.
def shows_too_little(many, spots, time, thing):
    if not are_spots(many, spots) or not is_whole(time) or time < 0 or not are_rows_like(thing):
        return False
    if len(thing) != greatest_left(between(many, spots), time) + 1:
        return False
    return thing == too_little(many, spots, time)
