"""A look at fences, and at what is said to be the fewest lanes gone twice."""

from mowfloor.cells import are_two_pairs, is_of, is_pair, is_rising, lookup
from mowfloor.floors import is_field
from mowfloor.lanes import lanes, odd_cells


def is_fence_like(thing):
    return is_rising(thing, is_pair)


def is_fence(free, odd, cells):
    return all([cell in free for cell in cells]) and sum([1 for cell in cells if cell in odd]) % 2 == 1


def leading_out(every, fence):
    inside = lookup(fence)
    return [lane for lane in every if (lane[0] in inside) != (lane[1] in inside)]


# Some lane leads out of each fence, so this ends at the latest when there are more fences than lanes.
def lead_out_once(every, some):
    led = {}
    for fence in some:
        out = leading_out(every, fence)
        if any([lane in led for lane in out]):
            return False
        led.update(lookup(out))
    return True


# From and to what is no cell of a field there are no fences, so nothing handed in makes this fail.
def are_fences(field, a, b, thing):
    if not is_field(field) or not is_of(field, a) or not is_of(field, b) or not is_rising(thing, is_fence_like):
        return False
    free = lookup(field)
    odd = lookup(odd_cells(field, a, b))
    return all([is_fence(free, odd, fence) for fence in thing]) and lead_out_once(lanes(field), thing)


def oddly_met(field, some):
    met = [lane[0] for lane in some] + [lane[1] for lane in some]
    return tuple([cell for cell in field if met.count(cell) % 2 == 1])


# Each fence has one of such lanes at least that leads out of it, and no lane leads out of two: no fewer would do.
def shows_least(field, a, b, some, thing):
    if not are_fences(field, a, b, thing) or not is_rising(some, are_two_pairs) or len(some) != len(thing):
        return False
    every = lookup(lanes(field))
    return all([lane in every for lane in some]) and oddly_met(field, some) == odd_cells(field, a, b)
