"""Point 2: whether an answer is as told, by its fields as they stand, also of answers made by hand."""

import unittest
from itertools import product

from boatpairs.answers import Boats, Heavy
from boatpairs.crossing import told
from helpers import HUGE, all_orders, all_sendings, holds, small_lists


class TestHeavy(unittest.TestCase):
    def test_any_person(self):
        for weights in all_orders(3, 3):
            for limit in range(5):
                for person in (-HUGE, -4, -3, -2, -1, 0, 1, 2, 3, 4, HUGE):
                    due = person in range(len(weights)) and weights[person] > limit
                    self.assertIs(Heavy(person).shows(weights, limit), due, (person, weights, limit))

    def test_at_the_limit(self):
        self.assertIs(Heavy(1).shows([1, 7], 6), True)
        self.assertIs(Heavy(1).shows([1, 7], 7), False)
        self.assertIs(Heavy(1).shows([1, 7], 8), False)
        self.assertIs(Heavy(0).shows([HUGE + 1], HUGE), True)
        self.assertIs(Heavy(0).shows([HUGE], HUGE), False)

    def test_limit_0_and_no_people(self):
        self.assertIs(Heavy(0).shows([1], 0), True)
        self.assertIs(Heavy(0).shows([], 0), False)
        self.assertIs(Heavy(-1).shows([1], 0), False)

    def test_changed_field(self):
        answer = told([1, 9, 2], 5)
        self.assertIs(answer.shows([1, 9, 2], 5), True)
        answer.person = 0
        self.assertIs(answer.shows([1, 9, 2], 5), False)
        answer.person = 1
        self.assertIs(answer.shows([1, 9, 2], 5), True)
        answer.person = -2
        self.assertIs(answer.shows([1, 9, 2], 5), False)

    def test_other_people_and_limits(self):
        answer = told([1, 9, 2], 5)
        self.assertIs(answer.shows([1, 9, 2], 8), True)
        self.assertIs(answer.shows([1, 9, 2], 9), False)
        self.assertIs(answer.shows([9, 1, 2], 5), False)
        self.assertIs(answer.shows([1], 0), False)

    def test_field(self):
        self.assertEqual(Heavy(3).person, 3)
        self.assertEqual(Heavy(person=-2).person, -2)
        self.assertIs(Heavy(person=0).shows(weights=[2], limit=1), True)


class TestBoats(unittest.TestCase):
    def check(self, boats, mark, weights, limit, due):
        answer = Boats(boats, mark)
        self.assertIs(answer.shows(weights, limit), due, (boats, mark, weights, limit))

    def test_all_sendings_and_marks(self):
        for weights in small_lists(4, 4):
            for limit in range(10):
                for boats in all_sendings(weights, limit):
                    for mark in range(-2, 8):
                        self.check(boats, mark, weights, limit, holds(boats, mark, weights, limit))

    def test_all_short_lists_of_small_tuples(self):
        persons = (-1, 0, 1, 2)
        tuples = [row for count in range(4) for row in product(persons, repeat=count)]
        for weights in ([], [1], [2, 1], [1, 1, 3]):
            for limit in (0, 2, 3, 5):
                for boats in [list(row) for count in range(3) for row in product(tuples, repeat=count)]:
                    for mark in (0, 1):
                        due = holds(boats, mark, weights, limit)
                        if Boats(boats, mark).shows(weights, limit) is not due:
                            self.fail((boats, mark, weights, limit, due))

    def test_a_told_answer_for_others(self):
        answer = told([1, 6, 3, 4], 7)
        self.assertIs(answer.shows([1, 6, 3, 4], 7), True)
        self.assertIs(answer.shows([1, 6, 3, 4], 6), False)
        self.assertIs(answer.shows([1, 6, 3, 4], 5), False)
        self.assertIs(answer.shows([1, 6, 3], 7), False)
        self.assertIs(answer.shows([1, 6, 3, 4, 1], 7), False)
        self.assertIs(answer.shows([1, 7, 3, 4], 7), False)
        self.assertIs(answer.shows([], 7), False)

    def test_told_for_one_shown_for_another(self):
        lists = small_lists(3, 3)
        for weights in lists:
            answer = told(weights, 4)
            for others in lists:
                for limit in range(7):
                    due = holds(answer.boats, answer.mark, others, limit)
                    self.assertIs(answer.shows(others, limit), due)

    def test_tuples_of_none(self):
        self.check([()], 0, [], 5, False)
        self.check([(), (0,)], 0, [1], 5, False)
        self.check([(0, 1, 2), ()], 0, [1, 1, 1], 9, False)

    def test_tuples_of_three_and_more(self):
        self.check([(0, 1, 2), (3,)], 0, [1, 1, 1, 1], 9, False)
        self.check([(0, 1, 2)], 0, [1, 1, 1], 9, False)
        self.check([(0, 1, 2, 3), (4,), (5,)], 0, [1] * 6, 9, False)

    def test_falling(self):
        self.check([(0, 1)], 0, [1, 1], 2, True)
        self.check([(1, 0)], 0, [1, 1], 2, False)
        self.check([(0, 2), (3, 1)], 0, [1, 1, 1, 1], 2, False)

    def test_the_same_person_twice(self):
        self.check([(0, 0)], 0, [1], 2, False)
        self.check([(0, 0)], 0, [1, 1], 2, False)
        self.check([(0, 1), (0, 2)], 0, [1, 1, 1], 2, False)
        self.check([(0, 1), (1,)], 0, [1, 1, 1], 2, False)
        self.check([(0, 1), (0, 1)], 0, [1, 1, 1, 1], 2, False)
        self.check([(0, 1), (0, 1)], 0, [1, 1, 1], 2, False)

    def test_persons_that_there_are_not(self):
        self.check([(0, 1), (2, 3)], 0, [1, 1, 1], 9, False)
        self.check([(0, 1), (3,)], 0, [1, 1, 1], 9, False)
        self.check([(0, 1), (-1,)], 0, [1, 1, 1], 9, False)
        self.check([(-1, 0), (1,)], 0, [1, 1, 1], 9, False)
        self.check([(-3, 1), (2,)], 0, [1, 1, 1], 9, False)
        self.check([(0, HUGE)], 0, [1, 1], 9, False)
        self.check([(-HUGE, 0)], 0, [1, 1], 9, False)
        self.check([(1,)], 0, [1], 9, False)
        self.check([(-1,)], 0, [1], 9, False)
        self.check([(0,)], 0, [], 9, False)

    def test_somebody_left_behind(self):
        self.check([(0, 1), (2,)], 0, [1, 1, 1], 9, True)
        self.check([(0,), (1,)], 0, [1, 1, 1], 9, False)
        self.check([(0, 1), (2,)], 0, [1, 1, 1, 1], 9, False)
        self.check([], 0, [1], 9, False)

    def test_too_heavy_a_boat(self):
        self.check([(0, 1)], 0, [3, 4], 7, True)
        self.check([(0, 1)], 0, [3, 4], 6, False)
        self.check([(0,)], 0, [6], 6, True)
        self.check([(0,)], 0, [7], 6, False)
        self.check([(0,)], 0, [1], 0, False)
        self.check([(0, 1)], 0, [HUGE, HUGE + 1], 2 * HUGE + 1, True)
        self.check([(0, 1)], 0, [HUGE, HUGE + 1], 2 * HUGE, False)

    def test_more_boats_than_needed(self):
        for mark in range(-3, 9):
            self.check([(0,), (1,)], mark, [1, 1], 5, False)
            self.check([(0, 1), (2,), (3,)], mark, [1, 1, 1, 1], 5, False)

    def test_the_fewest_in_any_order(self):
        self.check([(0, 3), (1, 2)], 0, [1, 2, 3, 4], 5, True)
        self.check([(1, 2), (0, 3)], 0, [1, 2, 3, 4], 5, True)

    def test_marks_at_their_ends(self):
        self.check([(0, 1)], 0, [1, 2], 3, True)
        self.check([(0, 1)], -1, [1, 2], 3, False)
        self.check([(0, 1)], -HUGE, [1, 2], 3, False)
        self.check([(0,), (1,)], 2, [3, 3], 5, False)
        self.check([(0,), (1,)], 3, [3, 3], 5, True)
        self.check([(0,), (1,)], 4, [3, 3], 5, False)
        self.check([(0,), (1,)], 3, [4, 4], 6, True)
        self.check([(0,), (1,)], 4, [4, 4], 6, False)
        self.check([(0,), (1,)], 4, [3, 3], 6, False)
        self.check([(0,), (1,)], HUGE, [4, 4], 6, False)

    def test_marks_without_people(self):
        self.check([], 0, [], 0, True)
        self.check([], 1, [], 0, False)
        self.check([], 1, [], 1, True)
        self.check([], 2, [], 2, False)
        self.check([], 2, [], 3, True)
        self.check([], -1, [], 3, False)
        self.check([], HUGE, [], 2 * HUGE - 1, True)
        self.check([], HUGE, [], 2 * HUGE - 2, False)

    def test_who_is_as_heavy_as_the_mark(self):
        self.check([(0, 1), (2,)], 2, [1, 6, 2], 7, True)
        self.check([(0, 1), (2,)], 3, [1, 6, 2], 7, False)
        self.check([(0,), (1,)], 2, [2, 6], 7, True)
        self.check([(0,), (1,)], 1, [2, 6], 7, False)

    def test_half_of_the_others_an_odd_one_for_one_more(self):
        self.check([(0,), (1, 2), (3,)], 2, [9, 2, 2, 2], 10, True)
        self.check([(0,), (1, 2), (3, 4)], 2, [9, 2, 2, 2, 2], 10, True)

    def test_changed_fields(self):
        weights = [1, 2, 3, 4]
        answer = told(weights, 5)
        good = list(answer.boats)
        mark = answer.mark
        last = answer.boats.pop()
        self.assertIs(answer.shows(weights, 5), False)
        answer.boats.append(last)
        self.assertIs(answer.shows(weights, 5), True)
        answer.boats = [(0, 1), (2, 3)]
        self.assertIs(answer.shows(weights, 5), False)
        self.assertIs(answer.shows(weights, 7), True)
        answer.boats = good
        answer.mark = -1
        self.assertIs(answer.shows(weights, 5), False)
        answer.mark = 4
        self.assertIs(answer.shows(weights, 5), False)
        answer.mark = mark
        self.assertIs(answer.shows(weights, 5), True)

    def test_lists_copied(self):
        boats = [(0, 1), (2,)]
        answer = Boats(boats, 0)
        self.assertIsNot(answer.boats, boats)
        self.assertIs(type(answer.boats), list)
        self.assertEqual(answer.boats, [(0, 1), (2,)])
        boats.append((3,))
        boats[0] = (9,)
        self.assertEqual(answer.boats, [(0, 1), (2,)])
        self.assertIs(answer.shows([1, 1, 1], 2), True)
        answer.boats.clear()
        self.assertEqual(boats, [(9,), (2,), (3,)])

    def test_fields_as_handed_in(self):
        boats = [(5, 2), (), (1, 1, 1), (-1,)]
        answer = Boats(boats=boats, mark=-7)
        self.assertEqual(answer.boats, [(5, 2), (), (1, 1, 1), (-1,)])
        self.assertEqual(answer.mark, -7)
        self.assertIs(answer.shows(weights=[1], limit=1), False)

    def test_asking_changes_nothing(self):
        answer = Boats([(1, 2), (0, 3)], 0)
        weights = [4, 2, 3, 1]
        self.assertIs(answer.shows(weights, 5), True)
        self.assertEqual(answer.boats, [(1, 2), (0, 3)])
        self.assertEqual(answer.mark, 0)
        self.assertEqual(weights, [4, 2, 3, 1])
        self.assertIs(answer.shows(weights, 4), False)
        self.assertIs(answer.shows(weights, 5), True)

    def test_long_lists(self):
        many = 20000
        pairs = [(at, at + 1) for at in range(0, many, 2)]
        self.check(pairs, 0, [1] * many, 2, True)
        self.check(pairs[:-1], 0, [1] * many, 2, False)
        self.check([(at,) for at in range(many)], 2, [2] * many, 3, True)


if __name__ == "__main__":
    unittest.main()
