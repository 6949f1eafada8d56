"""Tells whether values have the forms that several modules ask for."""

from trackloom.errors import InvalidNumber


def is_integer(value, low, high):
    """Whether value is an integer, and no bool, from low to high."""
    return isinstance(value, int) and not isinstance(value, bool) and low <= value <= high


def is_number(value):
    """Whether any value is a number, however great."""
    return isinstance(value, int) and not isinstance(value, bool) and value >= 0


def check_number(value, low, high):
    """Raises InvalidNumber unless value is an integer from low to high."""
    if not is_integer(value, low, high):
        raise InvalidNumber(value)


def is_row(value, least, most):
    """Whether value is a tuple of at least least and at most most members."""
    return isinstance(value, tuple) and least <= len(value) <= most


def is_ascending(row):
    """Whether each member is more than the one ahead of it."""
    return all([one < other for one, other in zip(row, row[1:])])


def are_integers(value, least, most, low, high):
    """Whether value is a tuple of least to most integers from low to high."""
    return is_row(value, least, most) and all([
        isinstance(member, int) and low <= member <= high and not isinstance(member, bool)
        for member in value
    ])


def is_name(value):
    """Whether any value is a name: a string of 1 to 8 letters from a to z."""
    return isinstance(value, str) and 1 <= len(value) <= 8 and all(["a" <= sign <= "z" for sign in value])
