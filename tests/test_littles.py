import copy
import unittest

from mowfloor.littles import shows_too_little, too_little
from mowfloor.times import least_time
from tests.samples import (
    Thorny, is_plain, junk, nested, rings_of_places, same, spaces_by_words, steps_of_share,
)


def room_by_words(time, left):
    fits = [right for right in range(time + 1) if steps_of_share(left, right) <= time]
    return max(fits) if fits else None


def rows_by_words(many, spots, time):
    """(rows, whether one goes through), as the words go."""
    spaces = spaces_by_words(many, spots)
    rows = []
    through = False
    for left in range(min(time, spaces[-1]) + 1):
        row = [left]
        while len(row) < len(spots) and room_by_words(time, row[-1]) is not None:
            row.append(max(0, spaces[len(row) - 1] - room_by_words(time, row[-1])))
        rows.append(tuple(row))
        room = room_by_words(time, row[-1])
        if len(row) == len(spots) and room is not None and room + left >= spaces[-1]:
            through = True
    return tuple(rows), through


def times_to_ask(many, spots):
    least = least_time(many, spots)
    near = {max(0, least - 2), max(0, least - 1), least, least + 1}
    return sorted(set(range(min(6, least + 3))) | near | {least // 2, 300})


def changes(thing):
    """What a tuple of rows is spoilt to, one spot at a time."""
    found = [thing[1:], thing[:-1], thing + thing[-1:], thing[:1] + thing, tuple(reversed(thing))]
    found = found + [list(thing), (thing,), ()]
    for place, row in enumerate(thing):
        ahead, behind = thing[:place], thing[place + 1:]
        for other in [row[1:], row[:-1], row + row[-1:], row + (0,), list(row), (row,)]:
            found.append(ahead + (other,) + behind)
        for spot, left in enumerate(row):
            for other in [left + 1, left - 1, float(left), str(left), (left,), [left], None]:
                found.append(ahead + (row[:spot] + (other,) + row[spot + 1:],) + behind)
            if left in (0, 1):
                found.append(ahead + (row[:spot] + (bool(left),) + row[spot + 1:],) + behind)
    return found


class TooLittle(unittest.TestCase):
    def test_some(self):
        self.assertEqual(too_little(5, (0,), 3), ((0,), (1,), (2,), (3,)))
        self.assertEqual(too_little(5, (0,), 0), ((0,),))
        self.assertIsNone(too_little(5, (0,), 4))
        self.assertIsNone(too_little(1, (0,), 0))
        self.assertEqual(too_little(2, (1,), 0), ((0,),))
        self.assertIsNone(too_little(3, (0, 1, 2), 0))
        self.assertEqual(too_little(4, (0, 1), 0), ((0, 0),))
        self.assertEqual(too_little(4, (0, 3), 0), ((0, 2),))
        self.assertEqual(too_little(6, (0, 5), 1), ((0, 3),))
        self.assertIsNone(too_little(6, (0, 5), 2))
        self.assertEqual(too_little(10, (0, 5), 3), ((0, 1), (1, 3), (2, 4), (3, 4)))
        self.assertIsNone(too_little(10, (0, 5), 4))

    def test_a_row_ends_behind_its_first_left_without_room(self):
        self.assertEqual(too_little(12, (0, 6, 8), 2), ((0, 3), (1, 5), (2, 5)))
        self.assertEqual(too_little(12, (0, 2, 8), 2), ((0, 0, 3), (1, 1, 5), (2, 1, 5)))
        self.assertEqual(too_little(20, (0, 1, 2), 1), ((0, 0, 0), (1, 0, 0)))

    def test_the_first_left_ends_at_the_time_or_at_the_places_between(self):
        self.assertEqual([row[0] for row in too_little(30, (5, 20), 3)], [0, 1, 2, 3])
        self.assertEqual([row[0] for row in too_little(30, (0, 26), 9)], [0, 1, 2, 3])
        self.assertEqual([row[0] for row in too_little(30, (1, 26), 9)], [0, 1, 2, 3, 4])
        self.assertEqual([row[0] for row in too_little(30, (0, 29), 9)], [0])
        self.assertEqual([row[0] for row in too_little(30, (7,), 28)], list(range(29)))

    def test_by_the_words(self):
        for many, spots in rings_of_places():
            for time in times_to_ask(many, spots):
                rows, through = rows_by_words(many, spots, time)
                told = too_little(many, spots, time)
                self.assertEqual(told, None if through else rows)
                self.assertTrue(is_plain(told))

    def test_below_the_least_time_and_none_from_it_on(self):
        for many, spots in rings_of_places():
            least = least_time(many, spots)
            for time in range(0, least + 5, 1 + least // 20):
                self.assertEqual(too_little(many, spots, time) is None, time >= least)
            self.assertTrue(least == 0 or type(too_little(many, spots, least - 1)) is tuple)
            self.assertIsNone(too_little(many, spots, least))
            self.assertIsNone(too_little(many, spots, 10 ** 6))

    def test_the_same_is_told_again(self):
        for many, spots in rings_of_places()[::5]:
            self.assertEqual(too_little(many, spots, 3), too_little(many, tuple(list(spots)), 3))


class ShowsTooLittle(unittest.TestCase):
    def shows(self, thing, truth, many=10, spots=(0, 5), time=3):
        self.assertIs(shows_too_little(many, spots, time, thing), truth)

    def test_what_is_told(self):
        for many, spots in rings_of_places():
            for time in times_to_ask(many, spots):
                told = too_little(many, spots, time)
                self.shows(told, told is not None, many, spots, time)

    def test_no_row_goes_through(self):
        for many, spots in rings_of_places():
            least = least_time(many, spots)
            for time in (least, least + 1, many):
                self.shows(rows_by_words(many, spots, time)[0], False, many, spots, time)
                self.shows(None, False, many, spots, time)
                self.shows((), False, many, spots, time)

    def test_spoilt(self):
        for many, spots, time in [
            (10, (0, 5), 3), (5, (0,), 3), (12, (0, 6, 8), 2), (12, (0, 2, 8), 2), (2, (1,), 0), (30, (0, 29), 9),
        ]:
            told = too_little(many, spots, time)
            self.shows(told, True, many, spots, time)
            for thing in changes(told):
                self.shows(thing, same(thing, told), many, spots, time)

    def test_of_another_time_ring_or_spots(self):
        told = too_little(10, (0, 5), 3)
        self.shows(told, True)
        self.shows(told, False, 10, (0, 5), 2)
        self.shows(told, False, 10, (0, 5), 4)
        self.shows(told, True, 11, (0, 5), 3)
        self.shows(told, True, 9, (0, 5), 3)
        self.shows(told, False, 8, (0, 5), 3)
        self.shows(told, False, 10, (0, 4), 3)
        self.shows(told, True, 10, (1, 6), 3)
        self.shows(told, False, 10, (0,), 3)
        self.shows(told, False, 10, (0, 5, 6), 3)

    def test_things_of_any_kind(self):
        told = too_little(10, (0, 5), 3)
        for thing in junk():
            self.shows(thing, False)
            self.shows((thing,), False)
            self.shows((thing,) + told[1:], same(thing, (0, 1)))
            self.shows(((0, thing),) + told[1:], same(thing, 1))
            self.shows(((thing, 1),) + told[1:], same(thing, 0))
            self.shows(told[:3] + (thing,), False)
            self.shows(told[:3] + ((3, thing),), False)
            self.shows(thing, same(thing, ((0,),)), 2, (1,), 0)
            self.shows(told, same(thing, 10 ** 40), thing)
            self.shows(told, False, 10, thing)
            self.shows(told, False, 10, (0, thing))
            self.shows(told, same(thing, 0), 10, (thing, 5))
            self.shows(told, False, 10, (0, 5), thing)
        for depth in range(1, 61):
            self.shows(nested(depth, lambda thing: (thing,)), False)
            self.shows(nested(depth, lambda thing: [thing]), False)
            self.shows(nested(depth, lambda thing: (thing,)), depth == 2, 2, (1,), 0)
        self.shows(Thorny(), False, Thorny(), Thorny(), Thorny())

    def test_a_ring_and_spots_that_are_none(self):
        for many, spots, time in [
            (0, (0,), 0), (-1, (0,), 0), (2, (), 0), (2, (2,), 0), (2, (-1,), 0), (3, (1, 0), 0), (3, (1, 1), 0), (2, (1,), -1),
        ]:
            for thing in [(), ((),), ((0,),), ((0, 0),), ((0, 1),), ((1,),)]:
                self.shows(thing, False, many, spots, time)

    def test_spots_off_the_ring(self):
        for spots in [(-1, 5), (-1, 0, 5), (0, 10), (0, 5, 12), (5, 10), (-3, -1), (10, 11), (-1,), (10,)]:
            for time in range(4):
                self.shows(too_little(10, spots, time), False, 10, spots, time)
        for spots in [(0, 5), (0, 9), (0, 1, 5), (0,), (9,)]:
            self.shows(too_little(10, spots, 1), True, 10, spots, 1)

    def test_numbers_far_beyond_take_no_longer(self):
        for thing in [(), ((0,),), ((0, 1), (1, 3))]:
            self.shows(thing, False, 10 ** 40, (0, 5), 10 ** 39)
            self.shows(thing, False, 10 ** 40, (0,), 10 ** 40)
        self.shows(((0, 10 ** 40 - 2 - 3),), True, 10 ** 40, (0, 10 ** 40 - 1), 3)

    def test_nothing_is_changed_and_the_same_is_told(self):
        thing = [list(row) for row in too_little(10, (0, 5), 3)]
        ahead = copy.deepcopy(thing)
        self.shows(thing, False)
        self.shows(thing, False)
        self.assertEqual(thing, ahead)
