"""Point 5: the least limit by which so many boats do."""

import unittest

from boatpairs.answers import Boats
from boatpairs.crossing import least_limit, told
from helpers import HUGE, all_orders, fewest, small_lists


class TestLeastLimit(unittest.TestCase):
    def check(self, weights, boats, due):
        found = least_limit(weights, boats)
        self.assertIs(type(found), int)
        self.assertEqual(found, due, (weights, boats))

    def test_small_lists_by_trying_limits(self):
        for weights in small_lists(6, 5):
            needed = [fewest(weights, limit) for limit in range(12)]
            for boats in range((len(weights) + 1) // 2, len(weights) + 3):
                least = min(at for at in range(12) if needed[at] is not None and needed[at] <= boats)
                self.check(weights, boats, least)

    def test_every_order(self):
        for weights in all_orders(4, 4):
            for boats in range((len(weights) + 1) // 2, len(weights) + 2):
                self.check(weights, boats, least_limit(sorted(weights), boats))

    def test_by_one_less_it_does_not_do(self):
        weights = [17, 3, 9, 22, 14, 5, 5, 31, 8, 2, 40, 11, 6]
        for boats in range(7, 16):
            limit = least_limit(weights, boats)
            enough = told(weights, limit)
            self.assertIs(type(enough), Boats)
            self.assertLessEqual(len(enough.boats), boats)
            less = told(weights, limit - 1)
            self.assertTrue(not isinstance(less, Boats) or len(less.boats) > boats)

    def test_no_people(self):
        for boats in (0, 1, 2, 7, HUGE):
            self.check([], boats, 0)

    def test_one_person(self):
        self.check([4], 1, 4)
        self.check([4], 2, 4)
        self.check([HUGE], HUGE, HUGE)

    def test_as_many_boats_as_people_and_more(self):
        for boats in (5, 6, 9, 10, 11, HUGE):
            self.check([3, 8, 1, 8, 2], boats, 8)
        self.check([3, 8, 1, 9, 2], 4, 9)

    def test_half_as_many_boats(self):
        self.check([1, 2, 3, 4], 2, 5)
        self.check([1, 2, 3, 4, 5], 3, 5)
        self.check([4, 4, 4, 4], 2, 8)
        self.check([9, 1, 1, 1], 2, 10)
        self.check([9, 1, 1, 1, 1], 3, 9)
        self.check([7, 5], 1, 12)

    def test_some_alone(self):
        self.check([4, 4, 4, 4], 3, 8)
        self.check([1, 2, 6, 7], 3, 7)
        self.check([5, 5, 6, 6], 3, 10)
        self.check([5, 5, 6, 6, 7, 7], 4, 11)

    def test_huge_weights(self):
        self.check([HUGE, HUGE + 1], 1, 2 * HUGE + 1)
        self.check([HUGE, HUGE + 1], 2, HUGE + 1)
        self.check([HUGE, HUGE + 1, HUGE + 3], 2, 2 * HUGE + 1)

    def test_long_lists(self):
        rising = list(range(1, 20001))
        self.check(rising, 10000, 20001)
        self.check(rising[::-1], 10001, 20000)
        self.check(rising, 20000, 20000)

    def test_arguments_by_name_and_place(self):
        self.assertEqual(least_limit(boats=1, weights=[2, 3]), 5)
        self.assertEqual(least_limit.__module__, "boatpairs.crossing")


if __name__ == "__main__":
    unittest.main()
