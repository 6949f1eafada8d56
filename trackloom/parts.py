"""Parts: which notes sound at a tick, and the parts that come of others."""

from trackloom.checking import check_number, is_ascending, is_integer, is_row
from trackloom.errors import InvalidPart, Undefined

ROOM = 2000
MOST_NOTES = 100
PITCHES = 127


def is_part(value):
    """Whether any value is a part."""
    return is_row(value, 0, MOST_NOTES) and all([is_note(note) for note in value]) and is_ascending(value)


def is_note(value):
    """Whether any value is a note (tick, length, pitch, force)."""
    return (
        is_row(value, 4, 4)
        and is_integer(value[0], 0, ROOM)
        and is_integer(value[1], 1, 500)
        and is_integer(value[2], 0, PITCHES)
        and is_integer(value[3], 1, 127)
    )


def check_part(part):
    """Raises InvalidPart unless it is a part."""
    if not is_part(part):
        raise InvalidPart(part)


def sounding(part, tick):
    """The notes that last at the tick."""
    check_part(part)
    check_number(tick, 0, 10000)
    return tuple([note for note in part if note[0] <= tick < note[0] + note[1]])


def moved(part, many):
    """The part with each tick by many greater."""
    check_part(part)
    check_number(many, -ROOM, ROOM)
    return with_room(later(part, many))


def later(part, many):
    """The notes of the part with each tick by many greater, wherever that is."""
    return [(tick + many, length, pitch, force) for tick, length, pitch, force in part]


def with_room(notes):
    """The part of the notes, if the ticks of all can be those of notes."""
    if not all([0 <= note[0] <= ROOM for note in notes]):
        raise Undefined("room")
    return ordered(notes)


def ordered(notes):
    """The notes in ascending order, equal ones once."""
    return tuple(sorted(set(notes)))


def raised(part, many):
    """The part with each pitch by many greater."""
    check_part(part)
    check_number(many, -PITCHES, PITCHES)
    if not all([0 <= note[2] + many <= PITCHES for note in part]):
        raise Undefined("pitch")
    return tuple([(tick, length, pitch + many, force) for tick, length, pitch, force in part])


def joined(one, other):
    """The part of the notes of both, equal ones once."""
    check_part(one)
    check_part(other)
    return with_few(ordered(one + other))


def with_few(notes):
    """The notes, if they are not more than a part may have."""
    if len(notes) > MOST_NOTES:
        raise Undefined("many")
    return notes


def cut(part, first, last):
    """The part of what lasts from the tick first up to, and without, the tick last."""
    check_part(part)
    check_number(first, 0, 10000)
    check_number(last, first, 10000)
    notes = []
    for tick, length, pitch, force in part:
        begin = max(tick, first)
        end = min(tick + length, last)
        if begin < end:
            notes.append((begin, end - begin, pitch, force))
    return with_room(notes)


def repeated(part, length, many):
    """The part many times over, each time by length later."""
    check_part(part)
    check_number(length, 1, 500)
    check_number(many, 1, 20)
    notes = []
    for turn in range(many):
        notes.extend(later(part, turn * length))
    return with_few(with_room(notes))


def snapped(part, grid):
    """The part in which each tick is the nearest multiple of grid."""
    check_part(part)
    check_number(grid, 1, 960)
    return with_room([(nearest(tick, grid), length, pitch, force) for tick, length, pitch, force in part])


def nearest(tick, grid):
    """The multiple of grid, not beyond the room, that is nearest; of two the lesser."""
    low = tick // grid * grid
    high = low + grid
    if high <= ROOM and high - tick < tick - low:
        return high
    return low
