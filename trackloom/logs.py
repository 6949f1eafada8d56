"""Logs: steps kept as bytes, that may be cut anywhere."""

from trackloom.checking import are_integers
from trackloom.errors import InvalidBytes, InvalidStamp, InvalidText
from trackloom.packing import bytes_of, check_in, number_of
from trackloom.stepping import are_steps, gathered, is_step, sorted_steps
from trackloom.writing import read, written

# All signs that the writing of a step can have: names and words have small letters alone.
SIGNS = ' "(),-0123456789abcdefghijklmnopqrstuvwxyz'
LENGTH = 3
CHECK = 2


def logged(steps):
    """The log of the steps."""
    if not are_steps(steps):
        raise InvalidStamp(steps)
    return log_of(steps)


def log_of(steps):
    """What logged tells of what is known to be steps, however many."""
    return tuple([byte for step in steps for byte in record_of(step)])


def record_of(step):
    """The record of the step."""
    text = written(step)
    row = bytes_of(len(text), LENGTH) + tuple([ord(sign) for sign in text])
    return row + bytes_of(check_in(row), CHECK)


def recovered(row):
    """The steps of the records with which the row begins, as long as they are right; and how many bytes these are."""
    if not isinstance(row, tuple) or not are_integers(row, 0, len(row), 0, 255):
        raise InvalidBytes(row)
    steps = []
    used = 0
    while True:
        step, end = record_at(row, used)
        if step is None:
            return tuple(steps), used
        steps.append(step)
        used = end


def record_at(row, at):
    """The step of the record that begins at this place, None if it is not whole and right; and where it ends."""
    last = at + LENGTH + number_of(row[at:at + LENGTH])
    end = last + CHECK
    if end > len(row) or check_in(row[at:last]) != number_of(row[last:end]):
        return None, end
    return step_in(row[at + LENGTH:last]), end


def step_in(numbers):
    """The step in whose writing the signs have these numbers, None if they are in none."""
    signs = {ord(sign): sign for sign in SIGNS}
    if not all([number in signs for number in numbers]):
        return None
    try:
        step = read("".join([signs[number] for number in numbers]))
    except InvalidText:
        return None
    return step if is_step(step) else None


def tidied(steps):
    """The steps in ascending order, equal ones once."""
    if not are_steps(steps):
        raise InvalidStamp(steps)
    deeds = gathered({}, steps)
    if deeds is None:
        raise InvalidStamp(steps)
    return sorted_steps(deeds)
