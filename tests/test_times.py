import itertools
import unittest

from mowfloor.times import least_time, room, shares
from tests.samples import held_by_shares, is_plain, rings_of_places, spaces_by_words, steps_of_share


def least_by_all_shares(many, spots):
    """By a look at all ways to part the places between the spots."""
    spaces = spaces_by_words(many, spots)
    found = []
    for rights in itertools.product(*[range(space + 1) for space in spaces]):
        lefts = [space - right for space, right in zip(spaces, rights)]
        lefts = lefts[-1:] + lefts[:-1]
        found.append(max(steps_of_share(left, right) for left, right in zip(lefts, rights)))
    return min(found)


def mown_within(many, spot, time):
    """Each set of places that one mower can go over, whatever way it goes along the ring."""
    layer = {(spot, frozenset([spot]))}
    met = set(layer)
    for _ in range(time):
        layer = {
            ((place + way) % many, over | {(place + way) % many}) for place, over in layer for way in (-1, 1)
        } - met
        met |= layer
    return {over for place, over in met}


def can_be_mown(many, spots, time):
    choices = [mown_within(many, spot, time) for spot in spots]
    return any(len(frozenset().union(*some)) == many for some in itertools.product(*choices))


class LeastTime(unittest.TestCase):
    def test_one_mower(self):
        for many in range(1, 201):
            self.assertEqual(least_time(many, (many // 2,)), many - 1)

    def test_some(self):
        self.assertEqual(least_time(1, (0,)), 0)
        self.assertEqual(least_time(2, (0, 1)), 0)
        self.assertEqual(least_time(2, (1,)), 1)
        self.assertEqual(least_time(4, (0, 2)), 1)
        self.assertEqual(least_time(4, (0, 1)), 1)
        self.assertEqual(least_time(4, (0, 3)), 1)
        self.assertEqual(least_time(5, (0, 1)), 2)
        self.assertEqual(least_time(10, (0, 5)), 4)
        self.assertEqual(least_time(8, tuple(range(8))), 0)
        self.assertEqual(least_time(9, tuple(range(8))), 1)
        self.assertEqual(least_time(200, (0, 100)), 99)
        self.assertEqual(least_time(200, tuple(range(0, 200, 25))), 24)

    def test_where_the_middle_ones_help_no_more(self):
        self.assertEqual(least_time(7, (0, 1, 2)), 2)
        self.assertEqual(least_time(20, (0, 1, 2)), 9)

    def test_all_shares_on_small_rings(self):
        for many, spots in rings_of_places():
            if many <= 8:
                self.assertEqual(least_time(many, spots), least_by_all_shares(many, spots))

    def test_all_shares_on_some_larger_rings(self):
        for many in (13, 18, 30):
            for spots in itertools.combinations(range(0, many, 4), 2):
                self.assertEqual(least_time(many, spots), least_by_all_shares(many, spots))
        for spots in itertools.combinations(range(0, 16, 2), 3):
            self.assertEqual(least_time(16, spots), least_by_all_shares(16, spots))

    def test_whatever_way_mowers_go_along_the_ring(self):
        for many, spots in rings_of_places():
            if many <= 7 and len(spots) <= 3:
                least = least_time(many, spots)
                self.assertTrue(can_be_mown(many, spots, least))
                self.assertFalse(least > 0 and can_be_mown(many, spots, least - 1))

    def test_moved_round_the_ring(self):
        for many, spots in rings_of_places()[::7]:
            for step in range(0, many, 9):
                moved = tuple(sorted((spot + step) % many for spot in spots))
                self.assertEqual(least_time(many, moved), least_time(many, spots))

    def test_the_kind_and_the_same_again(self):
        for many, spots in rings_of_places():
            self.assertIs(type(least_time(many, spots)), int)
            self.assertEqual(least_time(many, spots), least_time(many, tuple(list(spots))))


class Shares(unittest.TestCase):
    def test_they_fill_the_ring_each_place_once_each_in_the_least_time(self):
        for many, spots in rings_of_places():
            some = shares(many, spots)
            self.assertTrue(type(some) is tuple and is_plain(some))
            self.assertEqual(len(some), len(spots))
            least = least_time(many, spots)
            for share in some:
                self.assertTrue(type(share) is tuple and len(share) == 2 and min(share) >= 0)
                self.assertLessEqual(steps_of_share(*share), least)
            self.assertEqual(max(steps_of_share(*share) for share in some), least)
            self.assertEqual(sorted(held_by_shares(many, spots, some)), list(range(many)))
            self.assertEqual(shares(many, tuple(list(spots))), some)

    def test_between_two_spots_both_together_have_what_lies_there(self):
        for many, spots in rings_of_places():
            some = shares(many, spots)
            for place, space in enumerate(spaces_by_words(many, spots)):
                self.assertEqual(some[place][1] + some[(place + 1) % len(spots)][0], space)

    def test_one_mower_alone(self):
        for many in (1, 2, 3, 10, 200):
            for spot in (0, many - 1):
                share = shares(many, (spot,))[0]
                self.assertEqual(sum(share), many - 1)
                self.assertEqual(min(share), 0)

    def test_where_there_is_one_choice_alone(self):
        self.assertEqual(shares(1, (0,)), ((0, 0),))
        self.assertEqual(shares(3, (0, 1, 2)), ((0, 0), (0, 0), (0, 0)))
        self.assertEqual(shares(4, (0, 1)), ((1, 0), (0, 1)))
        self.assertEqual(shares(6, (0, 5)), ((0, 2), (2, 0)))

    def test_a_larger_ring_than_is_promised(self):
        for many, spots in [(900, (3,)), (900, (0, 1, 2, 500)), (900, tuple(range(0, 900, 113)))]:
            some = shares(many, spots)
            self.assertEqual(sorted(held_by_shares(many, spots, some)), list(range(many)))


class Room(unittest.TestCase):
    def test_the_greatest_right(self):
        for time in range(40):
            for left in range(45):
                fits = [right for right in range(50) if steps_of_share(left, right) <= time]
                self.assertEqual(room(time, left), max(fits) if fits else None)
