"""Tells whether values have the forms that several modules ask for."""

from trackloom.errors import InvalidNumber


def is_integer(value, low, high):
    """Whether value is an integer, and no bool, from low to high."""
    return isinstance(value, int) and not isinstance(value, bool) and low <= value <= high


def check_number(value, low, high):
    """Raises InvalidNumber unless value is an integer from low to high."""
    if not is_integer(value, low, high):
        raise InvalidNumber(value)


def is_row(value, least, most):
    """Whether value is a tuple of at least least and at most most members."""
    return isinstance(value, tuple) and least <= len(value) <= most


def is_ascending(row):
    """Whether each member is more than the one ahead of it."""
    return all([one < other for one, other in zip(row, row[1:])])
