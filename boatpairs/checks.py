"""Refuses what is handed in as people, a limit or a count of boats and is none."""

from boatpairs.errors import BadBoats, BadLimit, BadPeople


def is_whole(thing):
    """Tell whether this is a whole number; True and False are none."""
    return isinstance(thing, int) and not isinstance(thing, bool)


def check_people(weights):
    """Refuse what is no list of weights."""
    if not isinstance(weights, list):
        raise BadPeople("people are a list of their weights")
    for weight in weights:
        if not is_whole(weight) or weight < 1:
            raise BadPeople("a weight is a whole number, 1 or more")


def check_limit(limit):
    """Refuse what is no limit."""
    if not is_whole(limit) or limit < 0:
        raise BadLimit("a limit is a whole number, 0 or more")


def check_boats(boats, people):
    """Refuse what is no count of boats that has room for so many people."""
    if not is_whole(boats) or 2 * boats < people:
        raise BadBoats("boats are a whole number, twice which is no less than there are people")
