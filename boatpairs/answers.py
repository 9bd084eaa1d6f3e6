"""What is told of people and a limit, and whether it holds."""


class Answer:
    """What is told of people and a limit."""


class Heavy(Answer):
    """Somebody who is heavier than the limit."""

    def __init__(self, person):
        self.person = person

    def shows(self, weights, limit):
        """Tell whether there is such a person, and whether it is heavier than the limit."""
        return 0 <= self.person < len(weights) and weights[self.person] > limit


class Boats(Answer):
    """Boats in which all cross, and a mark that shows that fewer won't do."""

    def __init__(self, boats, mark):
        self.boats = list(boats)
        self.mark = mark

    def shows(self, weights, limit):
        """Tell whether all cross, each once, and whether the mark asks for as many boats."""
        return (
            0 <= 2 * self.mark <= limit + 1
            and _all_cross(self.boats, weights, limit)
            and len(self.boats) == _asked_by(self.mark, weights, limit)
        )


def _all_cross(boats, weights, limit):
    """Tell whether these are boats, and whether everybody is in just one of them."""
    persons = sorted([person for boat in boats for person in boat])
    # Compared first: a person that there is not has no weight to look up.
    if persons != list(range(len(weights))):
        return False
    return all([_is_boat(boat, weights, limit) for boat in boats])


def _is_boat(boat, weights, limit):
    """Tell whether one or two are in it, rising, together no heavier than the limit."""
    if len(boat) == 1:
        return weights[boat[0]] <= limit
    return len(boat) == 2 and boat[0] < boat[1] and weights[boat[0]] + weights[boat[1]] <= limit


def _asked_by(mark, weights, limit):
    """Tell how many boats the mark asks for."""
    alone = len([weight for weight in weights if weight + mark > limit])
    others = len([weight for weight in weights if weight >= mark and weight + mark <= limit])
    return alone + (others + 1) // 2
