"""Point 3: a greater limit, one more person, another order."""

import unittest
from itertools import permutations

from boatpairs.crossing import told
from boatpairs.people import ways
from helpers import all_sendings, fewest, small_lists

MIXED = [31, 7, 19, 44, 2, 2, 28, 13, 50, 36, 9, 23, 41, 5, 17, 30, 30, 12, 1, 47]


def needed(weights, limit):
    return len(told(weights, limit).boats)


class TestOrder(unittest.TestCase):
    def test_a_greater_limit_never_needs_more(self):
        for weights in small_lists(5, 5) + [MIXED, MIXED[:13], MIXED[5:]]:
            heaviest = max(weights, default=0)
            counts = [needed(weights, limit) for limit in range(heaviest, 2 * heaviest + 3)]
            self.assertEqual(counts, sorted(counts, reverse=True), weights)
            self.assertEqual(counts[-1], (len(weights) + 1) // 2)

    def test_one_more_person_needs_as_many_or_one_more(self):
        for weights in small_lists(4, 5):
            for limit in range(5, 12):
                before = needed(weights, limit)
                for weight in range(1, 6):
                    for at in (0, len(weights) // 2, len(weights)):
                        more = weights[:at] + [weight] + weights[at:]
                        self.assertIn(needed(more, limit), (before, before + 1), (more, limit))

    def test_one_by_one(self):
        for limit in (50, 51, 55, 60, 72, 100):
            counts = [needed(MIXED[:many], limit) for many in range(len(MIXED) + 1)]
            self.assertEqual(counts[0], 0)
            for before, after in zip(counts, counts[1:]):
                self.assertIn(after, (before, before + 1))

    def test_another_order(self):
        for weights in ([1, 2, 3, 4, 5], [1, 1, 4, 4, 5], [3, 3, 2, 5, 5], [2, 3, 4, 4]):
            for limit in range(5, 11):
                least = fewest(weights, limit)
                pairs = ways(weights, limit)
                for mixed in permutations(weights):
                    self.assertEqual(needed(list(mixed), limit), least)
                    self.assertEqual(ways(list(mixed), limit), pairs)

    def test_against_all_ways_to_send_them(self):
        for weights in ([5, 1, 4, 2, 3, 3, 1], [6, 6, 1, 1, 1, 5, 2], [2, 7, 5, 5, 3, 4, 1, 6]):
            for limit in range(max(weights), 14):
                counts = {len(boats) for boats in all_sendings(weights, limit)}
                self.assertEqual(needed(weights, limit), min(counts))


if __name__ == "__main__":
    unittest.main()
