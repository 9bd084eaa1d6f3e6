"""What the tests share: small lists, all ways tried one by one, and things that are not what is asked for."""

from itertools import combinations_with_replacement, product

HUGE = 10 ** 40


class Plain:
    """Something of no kind that the program knows."""


def small_lists(most, heaviest):
    """All rising lists of up to so many weights, with one shuffled copy of each."""
    lists = []
    for count in range(most + 1):
        for weights in combinations_with_replacement(range(1, heaviest + 1), count):
            lists.append(list(weights))
            mixed = list(weights[1::2]) + list(weights[::-2])
            if len(mixed) == count and sorted(mixed) == list(weights) and mixed != list(weights):
                lists.append(mixed)
    return lists


def all_orders(most, heaviest):
    """All lists of up to so many weights, in each order."""
    return [list(row) for count in range(most + 1) for row in product(range(1, heaviest + 1), repeat=count)]


def sendings(people, weights, limit):
    """All ways to send these people, as lists of boats."""
    if not people:
        return [[]]
    found = []
    first, rest = people[0], people[1:]
    if weights[first] <= limit:
        found += [[(first,)] + boats for boats in sendings(rest, weights, limit)]
    for other in rest:
        if weights[first] + weights[other] <= limit:
            left = [person for person in rest if person != other]
            found += [[(first, other)] + boats for boats in sendings(left, weights, limit)]
    return found


def all_sendings(weights, limit):
    return sendings(list(range(len(weights))), weights, limit)


def fewest(weights, limit):
    """The fewest boats by trying all ways; None where somebody is too heavy."""
    return min([len(boats) for boats in all_sendings(weights, limit)], default=None)


def ways_by_trying(weights, limit):
    return len([boats for boats in all_sendings(weights, limit) if 2 * len(boats) == len(weights)])


def asked_by(mark, weights, limit):
    """How many boats a mark asks for, word by word as point 2 says it."""
    too_heavy = [at for at in range(len(weights)) if weights[at] + mark > limit]
    lighter = [at for at in range(len(weights)) if weights[at] < mark]
    neither = [at for at in range(len(weights)) if at not in too_heavy and at not in lighter]
    half, odd = divmod(len(neither), 2)
    return len(too_heavy) + half + odd


def holds(boats, mark, weights, limit):
    """Whether boats and a mark are as point 2 tells, without asking the program."""
    if mark < 0 or 2 * mark > limit + 1:
        return False
    met = []
    for boat in boats:
        if len(boat) not in (1, 2) or list(boat) != sorted(set(boat)):
            return False
        if not all(0 <= person < len(weights) for person in boat):
            return False
        if sum(weights[person] for person in boat) > limit:
            return False
        met += boat
    return sorted(met) == list(range(len(weights))) and len(boats) == asked_by(mark, weights, limit)


def double_factorial(odd):
    found = 1
    while odd > 1:
        found, odd = found * odd, odd - 2
    return found


def bad_people():
    """Things that are no people, made anew each time."""
    bad_weights = [
        0, -1, -HUGE, True, False, "1", "", None, [1], [], (1,), (), {}, {1: 1}, 1.0, 2.5,
        float("nan"), b"1", {1}, 1j, Plain(), int, len,
    ]
    rows = [
        None, 0, 1, -1, HUGE, True, False, 1.5, "", "12", b"", b"12", (), (1,), (1, 2), {}, {1: 2},
        set(), {1, 2}, frozenset([1]), range(0), range(1, 3), iter([1, 2]), map(abs, [1]), bytearray(b"1"),
        Plain(), list, len,
    ]
    for weight in bad_weights:
        rows += [[weight], [1, 2, weight], [weight, 1, 2], [1, weight, 2, 3], [9, 9, 9, weight]]
    return rows


def not_whole():
    """Things that are no whole numbers."""
    return [
        None, True, False, "", "3", "boats", b"3", 0.0, 3.0, 2.5, float("inf"), float("nan"), 3j, [], [3],
        (), (3,), {}, {3: 3}, set(), {3}, range(3), Plain(), int, len,
    ]
