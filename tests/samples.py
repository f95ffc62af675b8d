"""Floors and things that the tests share."""

import itertools
import random
from collections import Counter, namedtuple


class Thorny:
    """An object that fails whenever it is asked for anything but its kind."""

    def fail(self, *args):
        raise RuntimeError("asked")

    __eq__ = __ne__ = __lt__ = __le__ = __gt__ = __ge__ = fail
    __hash__ = __len__ = __iter__ = __bool__ = __getitem__ = __contains__ = fail
    __add__ = __radd__ = __sub__ = __int__ = __index__ = __str__ = __repr__ = fail


Point = namedtuple("Point", "row column")


def nested(depth, wrap):
    thing = wrap(0)
    for _ in range(depth - 1):
        thing = wrap(thing)
    return thing


def junk():
    """Things that are no floor, no field, no walk, no paper and no text of a floor."""
    return [
        None, True, False, 0, 1, -1, 10 ** 40, 0.0, 1.5, float("nan"), 1j,
        "", "text", "((0, 0),)", "down", b"", b"ab", bytearray(b"ab"),
        [], [(0, 0)], [[0, 0]], {}, {(0, 0): True}, {0: 0}, set(), {(0, 0)}, frozenset([(0, 0)]),
        range(2), iter(()), iter(((0, 0),)), (part for part in ((0, 0),)),
        object(), Thorny(), int, tuple, len, ValueError("no"), NotImplemented, Ellipsis,
        (None,), (True,), (0,), (1.0,), ("",), ("ab",), ([],), ({},), (set(),), (object(),), (Thorny(),), ((),),
        (0, 0), (0, 1), ("00",), (b"00",), (range(2),), ({0: 0, 1: 1},),
        ((0,),), ((0, 0, 0),), ((0, 0), (0,)), ((0, 0), (0, 1, 2)), ((0, 0), None), ((0, 0), Thorny()),
        ([0, 0],), ((0, 0), [0, 1]), [(0, 0), (0, 1)], ((0, 0.0),), ((0.0, 0),), (("0", "0"),),
        ((True, 0),), ((0, True),), ((False, 0),), ((0, False),), ((None, 0),), ((0, None),),
        (([], 0),), ((0, {}),), ((Thorny(), 0),), ((0, Thorny()),), ((0, (0,)),), (((0, 0),),),
        ((0, 0), (0, 0)), ((0, 1), (0, 0)), ((1, 0), (0, 0)), ((0, -1),), ((-1, 0),), ((10 ** 40, 0),),
        ((0, 10 ** 40),),
        nested(60, lambda thing: (thing,)), nested(60, lambda thing: [thing]), nested(60, lambda thing: {0: thing}),
        nested(60, lambda thing: (thing, thing)[:1]), (nested(59, lambda thing: (thing,)), 0),
        ((nested(58, lambda thing: (thing,)), 0),), ((0, nested(58, lambda thing: [thing])),),
    ]


def same(thing, wanted):
    """Whether thing is wanted, to each kind, asked so that a thorny part of thing is never compared."""
    if type(thing) is not type(wanted):
        return False
    if type(thing) is tuple:
        return len(thing) == len(wanted) and all(same(part, other) for part, other in zip(thing, wanted))
    return type(thing) in (int, str) and thing == wanted


def rectangle(rows, columns, top=0, left=0):
    return tuple((top + row, left + column) for row in range(rows) for column in range(columns))


def drawn(seed, rows, columns, percent):
    """A floor of about percent of the cells, always the same one for the same seed."""
    source = random.Random(seed)
    return tuple(cell for cell in rectangle(rows, columns) if source.randrange(100) < percent)


def drawn_floors():
    found = []
    for seed in range(60):
        found.append(drawn(seed, 1 + seed % 7, 1 + seed % 5, 30 + seed))
    found.append(drawn(100, 14, 14, 70))
    found.append(drawn(101, 14, 14, 90))
    found.append(drawn(102, 31, 31, 20))
    return found


def all_floors(rows, columns):
    """Each floor that there is within the rectangle."""
    cells = rectangle(rows, columns)
    return [
        tuple(cell for place, cell in enumerate(cells) if mask >> place & 1) for mask in range(1 << len(cells))
    ]


def apart(one, other):
    return abs(one[0] - other[0]) + abs(one[1] - other[1])


def held(run):
    """The cells of a run, counted without the program."""
    word, (row, column), many = run
    return [(row + step, column) if word == "down" else (row, column + step) for step in range(many)]


def all_runs(floor):
    """Each row of cells that can't be longer, by a look at all rows of cells."""
    found = []
    for word in ("down", "right"):
        for cell in floor:
            for many in range(1, 32):
                cells = held((word, cell, many))
                longer = held((word, (cell[0] - (word == "down"), cell[1] - (word == "right")), many + 2))
                if set(cells) <= set(floor) and longer[0] not in floor and longer[-1] not in floor:
                    found.append((word, cell, many))
    return found


def drawn_text(text):
    """A floor written as rows, read without the program."""
    rows = text.split()
    return tuple((row, column) for row, signs in enumerate(rows) for column, sign in enumerate(signs) if sign == ".")


def is_plain(thing):
    """Whether a told thing is made of tuples, texts, whole numbers and None alone."""
    if type(thing) is tuple:
        return all(is_plain(part) for part in thing)
    return thing is None or type(thing) in (str, int)


RING = drawn_text("""
...
.#.
...
""")
COMB = drawn_text("""
.......
.#.#.#.
.#.#.#.
""")
HOLES = drawn_text("""
......
.#..#.
......
#.#...
""")


def small_fields():
    """One cell, two cells, straight rows, whole squares, rings, combs, fields with holes."""
    return [
        ((0, 0),), ((30, 30),), ((0, 0), (0, 1)), ((4, 7), (5, 7)), rectangle(1, 5), rectangle(6, 1, 3, 3),
        rectangle(2, 2), rectangle(3, 3, 1, 2), rectangle(4, 4), RING, COMB, HOLES, comb(1), comb(3),
        drawn_text("....\n.##.\n....\n"), drawn_text(".#\n..\n.#\n"), drawn_text("#.#\n...\n#.#\n"),
        drawn_text(".....\n.#.#.\n.....\n.#.#.\n....."),
    ]


def comb(teeth):
    """A row with a tooth below every second cell: with its ends, 2 for each tooth and 2 more have an odd number."""
    row = rectangle(1, 2 * teeth + 1)
    return row + tuple((1, column) for column in range(1, 2 * teeth, 2))


def fields_of(floor):
    """The parts of a floor, without the program."""
    left = set(floor)
    found = []
    while left:
        part = {min(left)}
        while True:
            more = {cell for cell in left - part if any(apart(cell, other) == 1 for other in part)}
            if not more:
                break
            part |= more
        left -= part
        found.append(tuple(sorted(part)))
    return found


def all_fields(rows, columns):
    """Each field that there is within the rectangle."""
    return [floor for floor in all_floors(rows, columns) if len(fields_of(floor)) == 1]


def drawn_fields():
    """Larger fields, of up to 200 cells, the greatest part of a drawn floor each."""
    found = []
    for seed in range(40):
        floor = drawn(200 + seed, 3 + seed % 12, 3 + seed % 11, 60 + seed % 4 * 10)
        found.append(max(fields_of(floor), key=len))
    return found


def pairs_of_cells(field, many):
    """Some pairs of a field, first the ends, each also with itself."""
    source = random.Random(len(field))
    found = [(field[0], field[-1]), (field[-1], field[0]), (field[0], field[0]), (field[-1], field[-1])]
    while len(found) < many:
        found.append((source.choice(field), source.choice(field)))
    return found


def all_pairs(field):
    return [(a, b) for a in field for b in field]


def lanes_by_words(field):
    """All lanes, by a look at all pairs of cells."""
    return tuple(pair for pair in itertools.combinations(field, 2) if apart(*pair) == 1)


def odd_by_words(field, a, b):
    counted = [cell for lane in lanes_by_words(field) for cell in lane] + [a] + [b]
    many = Counter(counted)
    return tuple(cell for cell in field if many[cell] % 2 == 1)


def has_odd_at(some, cells):
    """Whether just these cells have an odd number of the lanes."""
    many = Counter(cell for lane in some for cell in lane)
    return {cell for cell in many if many[cell] % 2 == 1} == set(cells)


def leads_out(lane, fence):
    return (lane[0] in fence) != (lane[1] in fence)


def are_fences_by_words(field, a, b, some):
    """Of a tuple of tuples of cells alone."""
    odd = odd_by_words(field, a, b)
    for fence in some:
        if list(fence) != sorted(set(fence)) or not set(fence) <= set(field) or len(set(fence) & set(odd)) % 2 == 0:
            return False
    if list(some) != sorted(set(some)):
        return False
    return all(sum(leads_out(lane, fence) for fence in some) <= 1 for lane in lanes_by_words(field))


def steps_by_words(field, walk):
    """The lanes of a walk's steps, one by one; fails where it is no walk of the field."""
    for cell in walk:
        if cell not in field:
            raise AssertionError(f"{cell} is not of the field")
    for one, other in zip(walk, walk[1:]):
        if apart(one, other) != 1:
            raise AssertionError(f"{one} and {other} are no neighbours")
    return [tuple(sorted(step)) for step in zip(walk, walk[1:])]


def of_blocks(coarse, top=0, left=0):
    """The field that has a block for each cell of a coarse floor, moved down and to the right."""
    return tuple(sorted(
        (top + 2 * row + below, left + 2 * column + aside)
        for row, column in coarse for below in (0, 1) for aside in (0, 1)
    ))


def block_fields():
    """Fields of blocks with their blocks: one block, rows, squares, rings, combs, moved by odd and even numbers."""
    coarse = [
        ((0, 0),), rectangle(1, 2), rectangle(2, 1), rectangle(1, 15), rectangle(15, 1), rectangle(2, 2),
        rectangle(3, 3),
        rectangle(2, 4), RING, COMB, HOLES, comb(3), drawn_text(".#\n..\n.#\n"), drawn_text("#.#\n...\n#.#\n"),
        drawn_text("#..\n..#\n.#.\n...\n"), drawn_text("##.\n#..\n..#\n"),
    ]
    return [
        (of_blocks(some, top, left), tuple((top + 2 * row, left + 2 * column) for row, column in some))
        for some in coarse for top, left in [(0, 0), (0, 1), (1, 0), (1, 1), (2, 2), (3, 2), (16, 17)]
        if max(row for row, column in some) * 2 + top < 30 and max(column for row, column in some) * 2 + left < 30
    ]


def drawn_block_fields():
    """Larger ones, of up to 50 blocks."""
    found = []
    for seed in range(30):
        coarse = max(fields_of(drawn(400 + seed, 2 + seed % 6, 2 + seed % 7, 60 + seed)), key=len)
        top, left = seed % 3, seed % 2
        some = tuple((top + 2 * row, left + 2 * column) for row, column in coarse)
        found.append((of_blocks(coarse, top, left), some))
    return found


def branches_by_words(some):
    """Each branch that there can be, by a look at all pairs of blocks."""
    return tuple(
        (one, other) for one, other in itertools.combinations(some, 2)
        if (abs(one[0] - other[0]), abs(one[1] - other[1])) in [(0, 2), (2, 0)]
    )


def hang_together(some, branches):
    """Whether each block comes to each other one by the branches."""
    met = {some[0]}
    for _ in some:
        met |= {block for branch in branches if set(branch) & met for block in branch}
    return met == set(some)


def all_trees(some):
    return [
        tree for tree in itertools.combinations(branches_by_words(some), len(some) - 1) if hang_together(some, tree)
    ]


def drawn_tree(some, seed):
    """A tree of the blocks, always the same one for the same seed."""
    source = random.Random(seed)
    every = list(branches_by_words(some))
    source.shuffle(every)
    for branch in list(every):
        if hang_together(some, [other for other in every if other != branch]):
            every.remove(branch)
    return tuple(sorted(every))


def steps_of_share(left, right):
    return left + right + min(left, right)


def spaces_by_words(many, spots):
    """How many places lie between each spot and the next one, counted one by one."""
    found = []
    for spot in spots:
        space = 0
        while (spot + space + 1) % many not in spots:
            space += 1
        found.append(space)
    return found


def held_by_shares(many, spots, some):
    """The places of all shares, one share behind the other."""
    found = []
    for spot, (left, right) in zip(spots, some):
        found.extend((spot + step) % many for step in range(-left, right + 1))
    return found


def rings_of_places():
    """(many, spots): all small ones, and drawn ones of up to 200 places and 8 spots."""
    found = []
    for many in range(1, 9):
        for several in range(1, min(many, 4) + 1):
            found.extend((many, spots) for spots in itertools.combinations(range(many), several))
    source = random.Random(7)
    for seed in range(60):
        many = source.randrange(1, 201)
        found.append((many, tuple(sorted(source.sample(range(many), min(many, 1 + seed % 8))))))
    found.extend([(200, (0,)), (200, (199,)), (200, tuple(range(8))), (200, tuple(range(192, 200)))])
    found.append((8, tuple(range(8))))
    found.extend([(200, (0, 100)), (200, (0, 199)), (200, tuple(range(0, 200, 25))), (4, (0, 3)), (9, (0, 1, 8))])
    return found
