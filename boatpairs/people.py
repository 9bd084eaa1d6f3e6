"""The ways to send all people in boats of two."""

from boatpairs.checks import check_limit, check_people


def ways(weights, limit):
    """Tell how many ways there are to send all in boats of two, none heavier than the limit."""
    check_people(weights)
    check_limit(limit)
    # Any two light ones may go together, and no two heavy ones: each heavy one takes a light one.
    light = sorted([weight for weight in weights if 2 * weight <= limit])
    heavy = sorted([weight for weight in weights if 2 * weight > limit], reverse=True)
    left = len(light) - len(heavy)
    if left < 0 or left % 2 == 1:
        return 0
    return _product(_choices(heavy, light, limit) + list(range(1, left, 2)))


def _choices(heavy, light, limit):
    """Tell for each heavy one, the heaviest first, how many light ones are left to choose from.

    Whoever fits a heavier one fits a lighter one too, so the number does not
    depend on whom the heavier ones chose. It falls by at most one from one to
    the next: where one is below 0, an earlier one is 0, and so is the product.
    """
    choices = []
    fitting = 0
    for taken, weight in enumerate(heavy):
        while fitting < len(light) and light[fitting] + weight <= limit:
            fitting += 1
        choices.append(fitting - taken)
    return choices


def _product(factors):
    """Multiply all; by halves, since one by one is slow where the product grows long."""
    if not factors:
        return 1
    if len(factors) == 1:
        return factors[0]
    middle = len(factors) // 2
    return _product(factors[:middle]) * _product(factors[middle:])
