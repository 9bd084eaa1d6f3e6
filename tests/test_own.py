"""Point 1: nothing handed in is kept or changed, what is told is new and the asker's own."""

import unittest

from boatpairs.answers import Boats, Heavy
from boatpairs.crossing import least_limit, told
from boatpairs.people import ways

PEOPLE = (5, 1, 4, 2, 6, 3, 1)


class TestOwn(unittest.TestCase):
    def test_nothing_handed_in_is_changed(self):
        for limit in (0, 5, 6, 7, 9, 20):
            weights = list(PEOPLE)
            answer = told(weights, limit)
            self.assertEqual(weights, list(PEOPLE))
            answer.shows(weights, limit)
            self.assertEqual(weights, list(PEOPLE))
            ways(weights, limit)
            self.assertEqual(weights, list(PEOPLE))
            ways(weights[1:], limit)
            for boats in (4, 5, 6, 7, 8):
                least_limit(weights, boats)
                self.assertEqual(weights, list(PEOPLE))

    def test_an_even_count_is_not_changed(self):
        weights = [4, 1, 3, 2]
        self.assertEqual(ways(weights, 5), 1)
        self.assertEqual(ways(weights, 9), 3)
        self.assertEqual(least_limit(weights, 2), 5)
        told(weights, 5)
        self.assertEqual(weights, [4, 1, 3, 2])

    def test_boats_handed_in_are_not_changed(self):
        boats = [(2, 3), (0, 1)]
        answer = Boats(boats, 0)
        answer.shows([1, 1, 1, 1], 2)
        answer.boats.append(())
        self.assertEqual(boats, [(2, 3), (0, 1)])

    def test_a_told_list_is_the_askers_own(self):
        weights = list(PEOPLE)
        first = told(weights, 7)
        kept = list(first.boats)
        second = told(weights, 7)
        self.assertIsNot(first, second)
        self.assertIsNot(first.boats, second.boats)
        first.boats.clear()
        first.mark = -5
        self.assertEqual(second.boats, kept)
        self.assertIs(second.shows(weights, 7), True)
        third = told(weights, 7)
        self.assertEqual(sorted(third.boats), sorted(kept))
        self.assertIs(third.shows(weights, 7), True)

    def test_nothing_told_of_nobody_is_shared(self):
        first = told([], 4)
        first.boats.append((0,))
        self.assertEqual(told([], 4).boats, [])
        self.assertEqual(told([], 5).boats, [])
        Boats([], 0).boats.append((1,))
        self.assertEqual(Boats([], 0).boats, [])

    def test_heavy_is_new(self):
        first = told([9], 4)
        first.person = 7
        self.assertEqual(told([9], 4).person, 0)
        self.assertEqual(first.person, 7)

    def test_people_changed_later(self):
        weights = list(PEOPLE)
        answer = told(weights, 7)
        kept = list(answer.boats)
        weights.append(3)
        weights[0] = 7
        self.assertEqual(answer.boats, kept)
        self.assertIs(answer.shows(list(PEOPLE), 7), True)
        self.assertIs(answer.shows(weights, 7), False)
        self.assertIs(told(weights, 7).shows(weights, 7), True)
        self.assertIs(type(told(weights, 6)), Heavy)

    def test_the_same_list_with_other_weights(self):
        weights = [1, 1]
        self.assertEqual((ways(weights, 2), least_limit(weights, 1)), (1, 2))
        self.assertEqual(len(told(weights, 2).boats), 1)
        weights[1] = 2
        self.assertEqual((ways(weights, 2), least_limit(weights, 1)), (0, 3))
        self.assertEqual(len(told(weights, 2).boats), 2)
        weights.clear()
        self.assertEqual((ways(weights, 2), least_limit(weights, 1)), (1, 0))
        self.assertEqual(told(weights, 2).boats, [])

    def test_a_weight_that_several_have_is_several_people(self):
        weights = [2] * 6
        answer = told(weights, 4)
        self.assertEqual(len(answer.boats), 3)
        self.assertEqual(sorted(person for boat in answer.boats for person in boat), list(range(6)))


if __name__ == "__main__":
    unittest.main()
