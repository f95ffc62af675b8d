"""A mower on a ring, while things come and go."""

from mowfloor.blocks import block_of, blocks
from mowfloor.cells import is_of, lookup, reached
from mowfloor.errors import Here, NoBlock
from mowfloor.rings import next_round
from mowfloor.trees import full_tree


def not_in(things, others):
    known = lookup(others)
    return [thing for thing in things if thing not in known]


# A block has other branches than ahead where one of them came or went.
def with_other_branches(some, ahead, behind):
    moved = not_in(ahead, behind) + not_in(behind, ahead)
    met = lookup([branch[0] for branch in moved] + [branch[1] for branch in moved])
    return tuple([block for block in some if block in met])


class Going:
    def __init__(self, field, tree, start):
        self.first = field
        self.ground = field
        self.branches = tree
        self.place = start
        self.over = {start: True}
        self.taken = {}

    def step(self):
        self.place = next_round(self.ground, self.branches, self.place)
        self.over[self.place] = True
        return self.place

    def at(self):
        return self.place

    def mown(self):
        return tuple(sorted(self.over))

    def field(self):
        return self.ground

    def tree(self):
        return self.branches

    def left(self):
        return tuple(not_in(self.ground, self.over))

    def lost(self):
        return tuple(not_in(not_in(self.first, self.over), self.ground))

    def thing(self, block):
        if not is_of(blocks(self.ground), block):
            raise NoBlock("this is no block of the field")
        if block == block_of(self.ground, self.place):
            raise Here("the mower stands in this block")
        self.taken[block] = True
        return self.settle()

    def goes(self, block):
        if not is_of(self.taken, block):
            raise NoBlock("this is no block that is taken up")
        self.taken.pop(block)
        return self.settle()

    # Cells of blocks beside one another are neighbours, so blocks are come to as their cells are.
    def settle(self):
        free = [cell for cell in self.first if block_of(self.first, cell) not in self.taken]
        self.ground = reached(lookup(free), self.place)
        some = blocks(self.ground)
        known = lookup(some)
        ahead = self.branches
        self.branches = full_tree(some, [branch for branch in ahead if branch[0] in known and branch[1] in known])
        return with_other_branches(some, ahead, self.branches)
