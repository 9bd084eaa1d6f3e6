"""Point 4: how many ways there are to send all in boats of two."""

import unittest

from boatpairs.people import ways
from helpers import HUGE, all_orders, double_factorial, small_lists, ways_by_trying


class TestWays(unittest.TestCase):
    def check(self, weights, limit, due):
        found = ways(weights, limit)
        self.assertIs(type(found), int)
        self.assertEqual(found, due, (weights, limit))

    def test_small_lists_one_by_one(self):
        for weights in small_lists(6, 5):
            for limit in range(12):
                self.check(weights, limit, ways_by_trying(weights, limit))

    def test_every_order(self):
        for weights in all_orders(4, 4):
            for limit in range(9):
                self.check(weights, limit, ways_by_trying(weights, limit))

    def test_eight_people(self):
        for weights in ([1, 1, 2, 2, 5, 5, 6, 6], [1, 2, 3, 4, 5, 6, 7, 8], [4, 4, 4, 4, 1, 1, 7, 7], [3] * 8):
            for limit in range(5, 16):
                self.check(weights, limit, ways_by_trying(weights, limit))

    def test_no_people(self):
        self.check([], 0, 1)
        self.check([], 9, 1)
        self.check([], HUGE, 1)

    def test_an_odd_count(self):
        self.check([1], 9, 0)
        self.check([1, 1, 1], 9, 0)
        self.check([1, 2, 3, 4, 5], 99, 0)
        self.check([1] * 61, 2, 0)
        self.check([1], 0, 0)

    def test_two_people_at_the_limit(self):
        self.check([3, 4], 7, 1)
        self.check([3, 4], 6, 0)
        self.check([3, 3], 6, 1)
        self.check([3, 3], 5, 0)
        self.check([HUGE, HUGE + 1], 2 * HUGE + 1, 1)
        self.check([HUGE, HUGE + 1], 2 * HUGE, 0)

    def test_somebody_too_heavy(self):
        self.check([1, 1, 1, 9], 8, 0)
        self.check([1, 1], 0, 0)
        self.check([9, 9], 8, 0)

    def test_two_like_weights_are_two_people(self):
        self.check([1, 1, 1, 1], 2, 3)
        self.check([1, 1, 5, 5], 6, 2)
        self.check([1, 1, 1, 5], 6, 3)

    def test_more_heavy_ones_than_light_ones(self):
        self.check([1, 5, 5, 5], 6, 0)
        self.check([1] + [5] * 9, 6, 0)
        self.check([1, 1, 2, 2, 5, 5, 5, 5], 6, 0)
        self.check([5] * 4 + [2, 2, 1, 1], 6, 0)

    def test_too_many_ways_to_list(self):
        self.check([1] * 20, 2, 654729075)
        self.check([1] * 60, 2, double_factorial(59))
        self.check(list(range(1, 61)), 200, double_factorial(59))
        self.check([HUGE] * 60, 2 * HUGE, double_factorial(59))
        self.check([1] * 60, 1, 0)

    def test_too_many_ways_with_heavy_ones(self):
        thirty = 1
        for at in range(1, 31):
            thirty *= at
        self.check([1] * 30 + [5] * 30, 6, thirty)
        self.check([1, 5] * 30, 6, thirty)
        # Ten heavy ones choose among forty light ones; thirty light ones are left.
        chosen = 1
        for at in range(10):
            chosen *= 40 - at
        self.check([5] * 10 + [1] * 40, 6, chosen * double_factorial(29))
        # The heaviest one fits ten only, the next one all but one of forty.
        self.check([6, 5] + [1] * 10 + [2] * 30, 7, 10 * 39 * double_factorial(37))

    def test_long_lists(self):
        self.check([1] * 3000, 2, double_factorial(2999))
        self.check([1] * 3001, 2, 0)
        self.check([3] * 3000, 5, 0)
        rising = list(range(1, 3001))
        self.check(rising, 3001, 1)
        self.check(rising, 3000, 0)
        self.check(rising[::-1], 3002, 2 ** 1499)

    def test_arguments_by_name_and_place(self):
        self.assertEqual(ways(limit=2, weights=[1, 1]), 1)
        self.assertEqual(ways.__module__, "boatpairs.people")


if __name__ == "__main__":
    unittest.main()
