"""Points 1 and 2: what is told of people and a limit."""

import unittest

from boatpairs.answers import Answer, Boats, Heavy
from boatpairs.crossing import told
from helpers import HUGE, all_orders, asked_by, fewest, holds, small_lists


class TestTold(unittest.TestCase):
    def check_boats(self, weights, limit):
        answer = told(weights, limit)
        self.assertIs(type(answer), Boats)
        self.assertIs(type(answer.boats), list)
        for boat in answer.boats:
            self.assertIs(type(boat), tuple)
            self.assertIn(len(boat), (1, 2))
            self.assertEqual(list(boat), sorted(set(boat)))
            self.assertLessEqual(sum(weights[person] for person in boat), limit)
            for person in boat:
                self.assertIs(type(person), int)
        crossing = sorted(person for boat in answer.boats for person in boat)
        self.assertEqual(crossing, list(range(len(weights))))
        self.assertIs(type(answer.mark), int)
        self.assertGreaterEqual(answer.mark, 0)
        self.assertLessEqual(2 * answer.mark, limit + 1)
        self.assertEqual(len(answer.boats), asked_by(answer.mark, weights, limit))
        self.assertTrue(holds(answer.boats, answer.mark, weights, limit))
        self.assertIs(answer.shows(weights, limit), True)
        return answer

    def check_heavy(self, weights, limit):
        answer = told(weights, limit)
        self.assertIs(type(answer), Heavy)
        self.assertIs(type(answer.person), int)
        self.assertIn(answer.person, range(len(weights)))
        self.assertGreater(weights[answer.person], limit)
        self.assertIs(answer.shows(weights, limit), True)
        return answer

    def check(self, weights, limit):
        if max(weights, default=0) > limit:
            return self.check_heavy(weights, limit)
        return self.check_boats(weights, limit)

    def test_small_lists_against_all_ways(self):
        for weights in small_lists(6, 5):
            for limit in range(12):
                answer = self.check(weights, limit)
                least = fewest(weights, limit)
                if isinstance(answer, Heavy):
                    self.assertIsNone(least)
                else:
                    self.assertEqual(len(answer.boats), least, (weights, limit))

    def test_every_order(self):
        for weights in all_orders(4, 4):
            for limit in range(10):
                self.check(weights, limit)

    def test_longer_lists(self):
        weights = []
        seed = 7
        for count in range(60):
            seed = (seed * 1103515245 + 12345) % 2 ** 31
            weights.append(1 + seed // 65536 % (5 + count % 40))
            for limit in (max(weights), max(weights) + 1, max(weights) + 4, 50, 51, 80):
                self.check(weights, limit)

    def test_no_people(self):
        for limit in (0, 1, 2, 5, HUGE):
            answer = self.check_boats([], limit)
            self.assertEqual(answer.boats, [])

    def test_one_person(self):
        self.assertEqual(self.check_boats([1], 1).boats, [(0,)])
        self.assertEqual(self.check_boats([5], 5).boats, [(0,)])
        self.assertEqual(self.check_boats([5], 6).boats, [(0,)])
        self.assertEqual(self.check_heavy([5], 4).person, 0)
        self.assertEqual(self.check_heavy([1], 0).person, 0)

    def test_two_people_at_the_limit(self):
        self.assertEqual(self.check_boats([3, 4], 7).boats, [(0, 1)])
        self.assertEqual(self.check_boats([4, 3], 7).boats, [(0, 1)])
        self.assertEqual(sorted(self.check_boats([3, 4], 6).boats), [(0,), (1,)])
        self.assertEqual(self.check_boats([3, 3], 6).boats, [(0, 1)])
        self.assertEqual(sorted(self.check_boats([3, 3], 5).boats), [(0,), (1,)])

    def test_known_crossings(self):
        self.assertEqual(len(self.check_boats([1, 2, 3, 4, 5, 6], 7).boats), 3)
        self.assertEqual(len(self.check_boats([6, 6, 6, 1], 7).boats), 3)
        self.assertEqual(len(self.check_boats([1, 1, 1, 6], 7).boats), 2)
        self.assertEqual(len(self.check_boats([7, 8], 10).boats), 2)
        self.assertEqual(len(self.check_boats([5, 3, 8, 2, 2, 7], 10).boats), 3)
        self.assertEqual(len(self.check_boats([2, 2, 2], 4).boats), 2)
        self.assertEqual(len(self.check_boats([1] * 9, 100).boats), 5)

    def test_many_light_ones_do_not_share_a_boat(self):
        self.assertEqual(len(self.check_boats([1] * 6, 6).boats), 3)

    def test_limit_0(self):
        self.check_boats([], 0)
        self.check_heavy([1], 0)
        self.check_heavy([1, 2, HUGE], 0)

    def test_somebody_too_heavy(self):
        self.assertEqual(self.check_heavy([1, 2, 9, 3], 8).person, 2)
        self.assertEqual(self.check_heavy([9, 1, 2, 3], 8).person, 0)
        self.assertEqual(self.check_heavy([1, 2, 3, 9], 8).person, 3)
        self.assertIn(self.check_heavy([1, 10, 3, 9], 8).person, (1, 3))
        self.check_boats([1, 2, 9, 3], 9)

    def test_huge_weights(self):
        weights = [HUGE, 1, HUGE - 1, 2]
        self.assertEqual(len(self.check_boats(weights, HUGE).boats), 3)
        self.assertEqual(len(self.check_boats(weights, HUGE + 1).boats), 2)
        self.assertEqual(self.check_heavy(weights, HUGE - 1).person, 0)
        self.assertEqual(len(self.check_boats([HUGE, HUGE + 1], 2 * HUGE + 1).boats), 1)
        self.assertEqual(len(self.check_boats([HUGE, HUGE + 1], 2 * HUGE).boats), 2)
        digits = 10 ** 6000
        self.assertEqual(len(self.check_boats([digits, 3, digits - 3], digits).boats), 2)
        self.check_heavy([1, digits], digits - 1)

    def test_long_lists(self):
        many = 20000
        self.assertEqual(len(self.check_boats([1] * many, 2).boats), many // 2)
        self.assertEqual(len(self.check_boats([2] * many, 3).boats), many)
        rising = list(range(1, many + 1))
        self.assertEqual(len(self.check_boats(rising, many + 1).boats), many // 2)
        self.assertEqual(len(self.check_boats(rising, many).boats), many // 2 + 1)
        self.assertEqual(len(self.check_boats(rising[::-1], many).boats), many // 2 + 1)

    def test_arguments_by_name(self):
        self.assertEqual(told(weights=[1], limit=1).boats, [(0,)])
        self.assertEqual(told(limit=1, weights=[2]).person, 0)

    def test_classes(self):
        self.assertEqual(Heavy.__bases__, (Answer,))
        self.assertEqual(Boats.__bases__, (Answer,))
        for kind in (Heavy, Boats):
            self.assertIn("shows", vars(kind))
        for name in ("Answer", "Heavy", "Boats"):
            self.assertEqual({"Answer": Answer, "Heavy": Heavy, "Boats": Boats}[name].__module__, "boatpairs.answers")
        self.assertEqual(told.__module__, "boatpairs.crossing")


if __name__ == "__main__":
    unittest.main()
