"""The refusals."""


class BoatError(ValueError):
    """Something handed in is not what was asked for."""


class BadPeople(BoatError):
    """No list of whole numbers from 1 on."""


class BadLimit(BoatError):
    """No whole number from 0 on."""


class BadBoats(BoatError):
    """No whole number, or too few boats for the people."""
