"""Meters: how many samples there are, how loud they are, and how many stand at a bound."""

from trackloom.checking import check_number, is_number, is_row
from trackloom.effects import BOUND, check_samples
from trackloom.errors import InvalidValue, Undefined


def meter(samples):
    """The meter (many, peak, power, over) of the samples."""
    check_samples(samples)
    sizes = [abs(sample) for sample in samples]
    return len(sizes), max([0] + sizes), sum(squares(samples)), sizes.count(BOUND)


def squares(samples):
    """The squares of the samples."""
    return [sample * sample for sample in samples]


def together(one, other):
    """The meter of the samples of both meters."""
    check_meter(one)
    check_meter(other)
    return one[0] + other[0], max(one[1], other[1]), one[2] + other[2], one[3] + other[3]


def check_meter(value):
    """Raises InvalidValue unless it is a tuple of four numbers."""
    if not is_row(value, 4, 4) or not all([is_number(member) for member in value]):
        raise InvalidValue(value)


def loudest(samples, many):
    """The greatest sum of the squares of so many neighbouring samples."""
    check_samples(samples)
    check_number(many, 1, 2000)
    if len(samples) < many:
        raise Undefined("many")
    powers = squares(samples)
    total = sum(powers[:many])
    most = total
    for added, left in zip(powers[many:], powers):
        total = total + added - left
        most = max(most, total)
    return most
