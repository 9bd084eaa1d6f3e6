"""The fewest boats for a limit, and the least limit for so many boats."""

from boatpairs.answers import Boats, Heavy
from boatpairs.checks import check_boats, check_limit, check_people


def told(weights, limit):
    """Tell somebody who is too heavy, or the fewest boats with their mark."""
    check_people(weights)
    check_limit(limit)
    for person, weight in enumerate(weights):
        if weight > limit:
            return Heavy(person)
    return _sent(weights, limit)


def _sent(weights, limit):
    """Send the heaviest one left with the lightest one left if they may, else alone."""
    order = sorted(range(len(weights)), key=lambda person: weights[person])
    boats = []
    mark = 0
    first = 0
    last = len(order) - 1
    while first < last:
        light, heavy = order[first], order[last]
        if weights[light] + weights[heavy] <= limit:
            boats.append((min(light, heavy), max(light, heavy)))
            first += 1
        else:
            boats.append((heavy,))
            # The last one who goes alone while others wait sets the mark: who is lighter went
            # with somebody too heavy for the mark, and the rest go two by two.
            mark = min(weights[light], (limit + 1) // 2)
        last -= 1
    if first == last:
        boats.append((order[first],))
    return Boats(sorted(boats), mark)


def least_limit(weights, boats):
    """Tell by which limit at the least so many boats do."""
    check_people(weights)
    check_boats(boats, len(weights))
    rising = sorted(weights)
    pairs = max(len(weights) - boats, 0)
    # So many must go two by two: best the lightest, the heaviest of them with the lightest.
    sums = [rising[at] + rising[2 * pairs - 1 - at] for at in range(pairs)]
    return max(weights + sums, default=0)
