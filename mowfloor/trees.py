"""Trees of a field of blocks: branches by which each block comes to each other one in one way alone."""

from mowfloor.blocks import SIDE, blocks
from mowfloor.cells import are_two_pairs, is_rising, lookup
from mowfloor.errors import NoBlocks
from mowfloor.floors import is_field


# To the right and down alone, so that each is found once, the lesser block first; rising, as the blocks are.
def all_branches(some):
    every = lookup(some)
    found = []
    for block in some:
        onward = [(block[0], block[1] + SIDE), (block[0] + SIDE, block[1])]
        found.extend([(block, other) for other in onward if other in every])
    return found


# Of the branches, those that join what those ahead of them left apart. Of blocks that hang together by the branches
# this is a tree; the first ones stay, all of them where there is no round of them.
def joining(some, branches):
    group = {}
    for block in some:
        group[block] = block
    found = []
    for branch in branches:
        stays = group[branch[0]]
        given_up = group[branch[1]]
        if stays != given_up:
            found.append(branch)
            for block in some:
                if group[block] == given_up:
                    group[block] = stays
    return tuple(sorted(found))


# As few more branches as can be, with those that there are.
def full_tree(some, kept):
    return joining(some, list(kept) + all_branches(some))


# A full tree of what is one already has all its branches and no more.
def is_tree(field, thing):
    if not is_field(field) or not is_rising(thing, are_two_pairs):
        return False
    try:
        some = blocks(field)
    except NoBlocks:
        return False
    every = lookup(all_branches(some))
    return all([branch in every for branch in thing]) and full_tree(some, thing) == thing


def some_tree(field):
    return full_tree(blocks(field), ())
