import copy
import itertools
import unittest

from mowfloor.again import again
from mowfloor.fences import fences
from mowfloor.lanelooks import are_fences, shows_least
from tests.samples import (
    RING, Thorny, all_fields, all_pairs, are_fences_by_words, comb, drawn_fields, has_odd_at, junk, lanes_by_words, nested,
    odd_by_words, pairs_of_cells, rectangle, same, small_fields,
)

# From its midst and back, all four lanes are gone twice; a fence for each, from its ends inwards.
ROW = rectangle(1, 5)
MIDST = (0, 2)
LANES = lanes_by_words(ROW)
FENCES = (((0, 0),), ((0, 0), (0, 1)), ((0, 3), (0, 4)), ((0, 4),))


def subsets(things):
    return [some for many in range(len(things) + 1) for some in itertools.combinations(things, many)]


class AreFences(unittest.TestCase):
    def holds(self, thing, truth, field=ROW, a=MIDST, b=MIDST):
        self.assertIs(are_fences(field, a, b, thing), truth)

    def test_what_is_told(self):
        for field in small_fields() + drawn_fields():
            for a, b in pairs_of_cells(field, 6):
                if len(odd_by_words(field, a, b)) <= 14:
                    self.holds(fences(field, a, b), True, field, a, b)

    def test_however_many(self):
        for some in subsets(FENCES):
            self.holds(some, True)
        for field in small_fields() + [comb(12), rectangle(14, 14)]:
            self.holds((), True, field, field[0], field[-1])

    def test_more_than_14_odd_cells(self):
        field = comb(9)
        ends = tuple(((1, column),) for column in range(1, 18, 2))
        self.holds(ends, True, field, (0, 0), (0, 0))
        self.holds(ends[:3] + ends[4:], True, field, (0, 0), (0, 0))
        self.holds((((0, 0),),) + ends, True, field, (0, 0), (0, 0))
        self.holds((((0, 2),),) + ends, False, field, (0, 0), (0, 0))

    def test_other_right_ones(self):
        self.holds((((0, 0), (0, 1), (0, 2), (0, 3)),), True)
        self.holds((((0, 0),), ((0, 0), (0, 1), (0, 2), (0, 3))), True)
        self.holds((((0, 1), (0, 2), (0, 3), (0, 4)),), True)
        self.holds((((0, 0), (0, 2)),), True)

    def test_two_sides_of_one_fence(self):
        self.holds((((0, 0),), ((0, 1), (0, 2), (0, 3), (0, 4))), False)
        self.holds((((0, 0), (0, 1), (0, 2)), ((0, 3), (0, 4))), False)

    def test_an_even_number_of_odd_cells(self):
        for fence in [(), ((0, 1),), ((0, 2),), ((0, 1), (0, 2), (0, 3)), ((0, 0), (0, 4)), ROW]:
            self.holds((fence,), False)
            self.holds(tuple(sorted((fence,) + FENCES[:1])), False)

    def test_cells_off_the_field(self):
        for cell in [(0, 5), (1, 0), (-1, 0), (0, -1), (30, 30), (31, 31), (10 ** 30, 0)]:
            self.holds((tuple(sorted(((0, 0), cell))),), False)
            self.holds((tuple(sorted(((0, 0), cell))), ((0, 4),)), False)
            self.holds(((cell,),), False)

    def test_twice_and_not_rising(self):
        for order in itertools.product(range(4), repeat=4):
            self.holds(tuple(FENCES[place] for place in order), order == (0, 1, 2, 3))
        self.holds((((0, 0), (0, 0)),), False)
        self.holds((((0, 1), (0, 0)),), False)
        self.holds((((0, 0), (0, 0), (0, 0)),), False)
        self.holds((FENCES[0], FENCES[0]), False)

    def test_a_and_b_count(self):
        two = ((0, 0), (0, 1))
        one = (((0, 0),),)
        self.holds(one, True, two, (0, 0), (0, 0))
        self.holds(one, True, two, (0, 1), (0, 1))
        self.holds(one, False, two, (0, 0), (0, 1))
        self.holds(one, False, two, (0, 1), (0, 0))
        self.holds(one, False, ((0, 0),), (0, 0), (0, 0))
        self.holds(one, False, RING, (0, 0), (0, 0))
        self.holds(one, True, RING, (0, 0), (1, 0))
        self.holds(one, True, RING, (1, 0), (0, 0))

    def test_all_on_small_fields(self):
        for field in [((0, 0),), rectangle(1, 3), rectangle(2, 2), ((0, 0), (0, 1), (0, 2), (1, 1))]:
            every = sorted(subsets(field))
            for many in range(4):
                for some in itertools.combinations(every, many):
                    for a, b in [(field[0], field[0]), (field[0], field[-1]), (field[-1], field[1 % len(field)])]:
                        self.holds(some, are_fences_by_words(field, a, b, some), field, a, b)

    def test_lists_and_truths(self):
        self.holds(list(FENCES), False)
        for place in range(4):
            fence = FENCES[place]
            for other in [list(fence), (list(fence[0]),) + fence[1:], set(fence), fence[0], (fence,)]:
                self.holds(FENCES[:place] + (other,) + FENCES[place + 1:], False)
        for cell in [(False, 0), (0, False), (0.0, 0), (0, 0.0), (0, None), (0,), (0, 0, 0), "00"]:
            self.holds(((cell,),), False)
            self.holds(((cell,),) + FENCES[1:], False)

    def test_things_of_any_kind(self):
        for thing in junk():
            self.holds(thing, same(thing, (((0, 0),),)))
            self.holds((thing,), same(thing, ((0, 0),)))
            self.holds(FENCES[:1] + (thing,), False)
            self.holds((thing,) + FENCES[1:], same(thing, ((0, 0),)))
            self.holds(((thing,),), same(thing, (0, 0)))
            self.holds((((0, 0), thing),), same(thing, (0, 1)))
            self.holds((((thing, 0),),), same(thing, 0))
            self.holds((((0, thing),),), same(thing, 0))
        for depth in range(1, 61):
            self.holds(nested(depth, lambda thing: (thing,)), False)
            self.holds(nested(depth, lambda thing: [thing]), False)

    def test_from_and_to_what_is_no_cell_of_a_field(self):
        for thing in junk():
            self.holds((), False, thing)
            self.holds((), same(thing, (0, 0)) or same(thing, (0, 1)), ROW, thing)
            self.holds((), same(thing, (0, 0)) or same(thing, (0, 1)), ROW, MIDST, thing)
            self.holds(thing, False, thing, thing, thing)
        self.holds((), False, ())
        self.holds((), False, ((0, 0), (0, 2)), (0, 0), (0, 0))
        self.holds((), False, ROW, (1, 0), MIDST)
        self.holds((), False, ROW, MIDST, (0, 5))

    def test_very_many(self):
        field = rectangle(3, 3)
        every = tuple(sorted(some for some in subsets(field) if len(set(some) & set(odd_by_words(field, (0, 0), (0, 0)))) % 2))
        self.assertEqual(len(every), 256)
        self.holds(every, False, field, (0, 0), (0, 0))

    def test_nothing_is_changed_and_the_same_is_told(self):
        for thing in [list(FENCES), [list(fence) for fence in FENCES], {FENCES[0]: [1]}]:
            ahead = copy.deepcopy(thing)
            self.holds(thing, False)
            self.holds(thing, False)
            self.assertEqual(thing, ahead)
        self.holds(FENCES, True)
        self.holds(FENCES, True)


class ShowsLeast(unittest.TestCase):
    def shows(self, some, thing, truth, field=ROW, a=MIDST, b=MIDST):
        self.assertIs(shows_least(field, a, b, some, thing), truth)

    def test_what_is_told(self):
        for field in small_fields() + drawn_fields():
            for a, b in pairs_of_cells(field, 6):
                if len(odd_by_words(field, a, b)) <= 14:
                    self.shows(again(field, a, b), fences(field, a, b), True, field, a, b)

    def test_whoever_made_them(self):
        self.shows(LANES, FENCES, True)
        self.shows(LANES, tuple(sorted(tuple(cell for cell in ROW if cell not in fence) for fence in FENCES)), True)
        upper = (((0, 0), (0, 1)), ((0, 1), (0, 2)))
        self.shows(upper, (((0, 0),), ((0, 2),)), True, RING, (0, 0), (0, 2))
        self.shows(upper, (((0, 0),), ((0, 0), (0, 1), (1, 0))), True, RING, (0, 0), (0, 2))
        self.shows(upper, (((0, 0),), ((0, 0), (0, 1))), False, RING, (0, 0), (0, 2))
        square = rectangle(2, 2)
        for some in [(((0, 0), (0, 1)), ((0, 1), (1, 1))), (((0, 0), (1, 0)), ((1, 0), (1, 1)))]:
            for thing in [(((0, 0),), ((1, 1),)), (((0, 0),), ((0, 0), (0, 1), (1, 0)))]:
                self.shows(some, thing, True, square, (0, 0), (1, 1))
                self.shows(some, thing, True, square, (1, 1), (0, 0))
                self.shows(some, thing, False, square, (0, 0), (0, 1))

    def test_more_than_14_odd_cells(self):
        field = comb(9)
        ends = tuple(((1, column),) for column in range(1, 18, 2))
        down = tuple(((0, column), (1, column)) for column in range(1, 18, 2))
        self.shows(down, ends, True, field, (0, 0), (0, 18))
        self.shows(down[1:], ends[1:], False, field, (0, 0), (0, 18))
        self.shows(down, ends, False, field, (0, 0), (0, 0))

    def test_none(self):
        self.shows((), (), True, ((0, 0),), (0, 0), (0, 0))
        self.shows((), (), True, ROW, (0, 0), (0, 4))
        self.shows((), (), True, RING, (1, 0), (1, 0))
        self.shows((), (), False)
        self.shows([], (), False, ROW, (0, 0), (0, 4))
        self.shows((), [], False, ROW, (0, 0), (0, 4))
        self.shows([], [], False, ROW, (0, 0), (0, 4))

    def test_one_left_out(self):
        for place in range(4):
            fewer = LANES[:place] + LANES[place + 1:]
            for other in range(4):
                fewer_fences = FENCES[:other] + FENCES[other + 1:]
                self.shows(fewer, fewer_fences, False)
                self.shows(LANES, fewer_fences, False)
            self.shows(fewer, FENCES, False)

    def test_one_too_many(self):
        field = rectangle(2, 3)
        lane = ((0, 1), (1, 1))
        fence = ((0, 1),)
        ends = ((0, 0), (0, 0))
        self.shows((lane,), (fence,), True, field, *ends)
        for more in lanes_by_words(field):
            self.shows(tuple(sorted((lane, more))), (fence,), False, field, *ends)
            for other in subsets(field):
                self.shows(tuple(sorted((lane, more))), tuple(sorted((fence, other))), False, field, *ends)
        self.shows((lane,), tuple(sorted((fence, ((0, 0),)))), False, field, *ends)

    def test_odd_at_the_right_cells_but_not_the_fewest(self):
        field = rectangle(2, 2)
        self.shows(lanes_by_words(field), (), False, field, (0, 0), (0, 0))
        long = (((0, 0), (1, 0)), ((0, 1), (1, 1)), ((1, 0), (1, 1)))
        self.assertTrue(has_odd_at(long, ((0, 0), (0, 1))))
        self.shows(long, (((0, 0),),), False, field, (0, 0), (0, 1))
        for some in itertools.combinations(sorted(subsets(field)), 3):
            self.shows(long, some, False, field, (0, 0), (0, 1))

    def test_as_many_but_odd_at_other_cells(self):
        field = rectangle(2, 3)
        for lane in lanes_by_words(field):
            self.shows((lane,), (((0, 1),),), lane == ((0, 1), (1, 1)), field, (0, 0), (0, 0))

    def test_twice_and_not_rising(self):
        for order in itertools.product(range(4), repeat=4):
            self.shows(tuple(LANES[place] for place in order), FENCES, order == (0, 1, 2, 3))
            self.shows(LANES, tuple(FENCES[place] for place in order), order == (0, 1, 2, 3))
        self.shows(LANES + LANES[3:], FENCES + FENCES[3:], False)

    def test_what_is_no_lane_of_the_field(self):
        for lane in [
            ((0, 1), (0, 0)), ((0, 0), (0, 0)), ((0, 0), (0, 2)), ((0, 0), (1, 0)), ((0, 4), (0, 5)), ((-1, 0), (0, 0)),
            ((0, 0), (0, 1), (0, 2)), ((0, 0),), (), (0, 0), (0, 1), (0, 0, 0, 1), ((0, 0), None), ((0, 0), (0,)),
        ]:
            self.shows((lane,) + LANES[1:], FENCES, False)
        two = ((0, 0), (0, 1))
        self.shows((two,), (((0, 0),),), True, two, (0, 0), (0, 0))
        self.shows((((0, 1), (0, 0)),), (((0, 0),),), False, two, (0, 0), (0, 0))
        split = rectangle(2, 2)
        self.shows((((0, 0), (1, 1)),), (((0, 0),),), False, split, (0, 0), (1, 1))

    def test_lists_and_truths(self):
        self.shows(list(LANES), FENCES, False)
        self.shows(LANES, list(FENCES), False)
        for place in range(4):
            lane = LANES[place]
            for other in [list(lane), (list(lane[0]), lane[1]), (lane[0], list(lane[1])), set(lane)]:
                self.shows(LANES[:place] + (other,) + LANES[place + 1:], FENCES, False)
        for lane in [((False, 0), (0, 1)), ((0, 0), (0, True)), ((0, False), (0, 1)), ((0, 0), (0, 1.0))]:
            self.shows((lane,) + LANES[1:], FENCES, False)
        self.shows(LANES, (((False, 0),),) + FENCES[1:], False)

    def test_things_of_any_kind(self):
        for thing in junk():
            self.shows(thing, FENCES, False)
            self.shows(LANES, thing, False)
            self.shows(thing, thing, False)
            self.shows((), thing, False, RING, (0, 0), (0, 0))
            self.shows(thing, (), False, RING, (0, 0), (0, 0))
            self.shows((thing,) + LANES[1:], FENCES, False)
            self.shows(LANES[:3] + (thing,), FENCES, False)
            self.shows(((thing, (0, 1)),) + LANES[1:], FENCES, same(thing, (0, 0)))
            self.shows((((0, 0), thing),) + LANES[1:], FENCES, same(thing, (0, 1)))
            self.shows((((thing, 0), (0, 1)),) + LANES[1:], FENCES, same(thing, 0))
            self.shows((((0, 0), (0, thing)),) + LANES[1:], FENCES, same(thing, 1))
            self.shows(LANES, (thing,) + FENCES[1:], same(thing, ((0, 0),)))
        for depth in range(1, 61):
            self.shows(nested(depth, lambda thing: (thing,)), FENCES, False)
            self.shows(LANES, nested(depth, lambda thing: (thing,)), False)
        self.shows(Thorny(), Thorny(), False)

    def test_both_exchanged(self):
        self.shows(FENCES, LANES, False)
        self.shows(LANES, LANES, False)
        self.shows(FENCES, FENCES, False)

    def test_all_on_small_fields(self):
        for field in [rectangle(1, 3), rectangle(2, 2), ((0, 0), (0, 1), (0, 2), (1, 1))]:
            every = [some for many in range(4) for some in itertools.combinations(sorted(subsets(field)), many)]
            a, b = field[0], field[-1]
            right = [thing for thing in every if are_fences_by_words(field, a, b, thing)]
            wrong = [thing for thing in every if thing not in right][::7]
            for some in subsets(lanes_by_words(field)):
                for thing in right:
                    wanted = len(some) == len(thing) and has_odd_at(some, odd_by_words(field, a, b))
                    self.shows(some, thing, wanted, field, a, b)
                for thing in wrong:
                    self.shows(some, thing, False, field, a, b)

    def test_what_is_shown_is_the_least(self):
        for field in all_fields(2, 3):
            for a, b in all_pairs(field):
                self.shows(again(field, a, b), fences(field, a, b), True, field, a, b)

    def test_nothing_is_changed_and_the_same_is_told(self):
        for some, thing in [(list(LANES), list(FENCES)), ([list(lane) for lane in LANES], {(0, 0): [1]})]:
            ahead = copy.deepcopy((some, thing))
            self.shows(some, thing, False)
            self.shows(some, thing, False)
            self.assertEqual((some, thing), ahead)
        self.shows(LANES, FENCES, True)
        self.shows(LANES, FENCES, True)
