"""The refusals: each class at each door, and which goes first."""

import unittest

from boatpairs import errors
from boatpairs.crossing import least_limit, told
from boatpairs.errors import BadBoats, BadLimit, BadPeople, BoatError
from boatpairs.people import ways
from helpers import HUGE, bad_people, not_whole

LIMITED = (ways, told)


class TestRefusals(unittest.TestCase):
    def refused(self, kind, door, weights, other):
        with self.assertRaises(kind, msg=f"{door.__name__} of {weights!r} and {other!r}") as caught:
            door(weights, other)
        self.assertIs(type(caught.exception), kind)

    def test_classes(self):
        self.assertEqual(BoatError.__bases__, (ValueError,))
        for kind in (BadPeople, BadLimit, BadBoats):
            self.assertEqual(kind.__bases__, (BoatError,))
        for kind in (BoatError, BadPeople, BadLimit, BadBoats):
            self.assertEqual(kind.__module__, errors.__name__)

    def test_bad_people(self):
        for door in LIMITED:
            for weights in bad_people():
                self.refused(BadPeople, door, weights, 5)
        for weights in bad_people():
            self.refused(BadPeople, least_limit, weights, 5)

    def test_one_bad_weight_far_behind(self):
        for bad in (0, -1, True, None, "1", 1.0):
            for weights in ([1] * 999 + [bad], [1] * 500 + [bad] + [1] * 499, [bad] + [1] * 999):
                for door in (ways, told, least_limit):
                    self.refused(BadPeople, door, weights, 1000)

    def test_bad_people_before_somebody_too_heavy(self):
        for bad in (0, -1, True, False, None, "1", [1], (1,)):
            for weights in ([9, bad], [bad, 9], [9, 9, bad], [9, 1, 1, bad]):
                for door in LIMITED:
                    self.refused(BadPeople, door, weights, 5)
                    self.refused(BadPeople, door, weights, 0)

    def test_bad_limits(self):
        for door in LIMITED:
            for limit in not_whole() + [-1, -2, -HUGE]:
                for weights in ([], [1], [1, 2], [1, 1, 1], [1, 2, 3, 4], [HUGE, 1]):
                    self.refused(BadLimit, door, weights, limit)

    def test_limits_that_are_not_refused(self):
        for limit in (0, 1, HUGE):
            self.assertEqual(told([], limit).boats, [])
            self.assertEqual(ways([], limit), 1)

    def test_boats_of_another_kind(self):
        for boats in not_whole():
            for weights in ([], [1], [1, 2], [1, 2, 3], [4] * 9):
                self.refused(BadBoats, least_limit, weights, boats)

    def test_too_few_boats(self):
        for count in range(1, 12):
            for boats in (-HUGE, -count, -1, 0, (count + 1) // 2 - 1):
                self.refused(BadBoats, least_limit, [2] * count, boats)
            self.assertEqual(least_limit([2] * count, (count + 1) // 2), 2 if count == 1 else 4)
        for boats in (-1, -2, -HUGE):
            self.refused(BadBoats, least_limit, [], boats)
        self.assertEqual(least_limit([], 0), 0)

    def test_bad_people_go_first(self):
        for weights in bad_people():
            for limit in (None, -1, True, "3", 2.5, [3]):
                for door in LIMITED:
                    self.refused(BadPeople, door, weights, limit)
            for boats in (None, -1, 0, True, "3", 2.5, [3]):
                self.refused(BadPeople, least_limit, weights, boats)

    def test_nothing_changed_by_a_refusal(self):
        weights = [3, 1, 0, 2]
        for door in (ways, told, least_limit):
            self.refused(BadPeople, door, weights, 5)
            self.assertEqual(weights, [3, 1, 0, 2])
        weights = [3, 1, 2]
        for door, kind in ((ways, BadLimit), (told, BadLimit), (least_limit, BadBoats)):
            self.refused(kind, door, weights, -1)
            self.assertEqual(weights, [3, 1, 2])


if __name__ == "__main__":
    unittest.main()
